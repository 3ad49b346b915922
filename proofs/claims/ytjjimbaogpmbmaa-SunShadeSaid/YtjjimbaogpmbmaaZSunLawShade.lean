/-
  SunShade.
-/
import Derived.Test.YtjjimbaogpmbmaaZSunZN
import Derived.Test.YtjjimbaogpmbmaaRows
import Derived.ProofKit
import Derived.OpenShut
import Derived.Deep.DeepHandedRow
import Derived.Deep.DeepWitnessRowRef
import Derived.MakeChecks
import Derived.Deep.DeepCutAuto
namespace Go.Proofs.Ytjjimbaogpmbmaa.LawShade
open Go.RowKit Go.Sort
open Go.RowKit (Below)
set_option linter.unusedVariables false
set_option linter.unusedSimpArgs false
attribute [local go_sem] Oper.semAt_some

theorem sls_app {w : World} {A B : Option Addr} {L M : List Bv} (h : BdS w A L) (k : BdS w B M) : ∀ i, i < (L ++ M).length → SlS w (gdB (L ++ M) i).A (gdB (L ++ M) i).xs := by
  intro i hi
  by_cases hl : i < L.length
  · obtain ⟨_, _, _, _, _, _, hs⟩ := h i hl
    rw [gdB_app_l hl]; exact hs
  · rw [List.length_append] at hi
    obtain ⟨_, _, _, _, _, _, hs⟩ := k (i - L.length) (by omega)
    rw [gdB_app_r hl]; exact hs
theorem bds_app {L M : List Bv} (h : Bds L) (k : Bds M) : Bds (L ++ M) := fun i hi => by
  by_cases hl : i < L.length
  · rw [gdB_app_l hl]; exact h i hl
  · rw [List.length_append] at hi
    rw [gdB_app_r hl]; exact k _ (by omega)
theorem bsm_app {L M : List Bv} (h : Bsm L) (k : Bsm M) : Bsm (L ++ M) := fun i hi => by
  by_cases hl : i < L.length
  · rw [gdB_app_l hl]; exact h i hl
  · rw [List.length_append] at hi
    rw [gdB_app_r hl]; exact k _ (by omega)
theorem blk_app {ex ey ez x y z : Int} {L M : List Bv} : Blk ex ey ez x y z (L ++ M) ↔ Blk ex ey ez x y z L ∨ Blk ex ey ez x y z M := by
  constructor
  · rintro ⟨i, hi, h⟩
    by_cases hl : i < L.length
    · rw [gdB_app_l hl] at h; exact Or.inl ⟨i, hl, h⟩
    · rw [List.length_append] at hi
      rw [gdB_app_r hl] at h
      exact Or.inr ⟨i - L.length, by omega, h⟩
  · rintro (⟨i, hi, h⟩ | ⟨i, hi, h⟩)
    · exact ⟨i, by rw [List.length_append]; omega, by rw [gdB_app_l hi]; exact h⟩
    · refine ⟨i + L.length, by rw [List.length_append]; omega, ?_⟩
      rw [gdB_app_r (by omega), Nat.add_sub_cancel]; exact h
/-- Both lists together. -/
theorem shd_app {T : List Q4} {m ex ey ez : Int} {L M : List Bv} {r s : Bool} (h : ShdR T m ex ey ez L r 0) (k : ShdR T m ex ey ez M s 0) (hl : L.length + M.length ≤ 60) : ShdR T m ex ey ez (L ++ M) (r || s) 0 := by
  obtain ⟨_, ⟨o1, o2, o3⟩, x, y, z, hd, h⟩ := shd_ok h
  obtain ⟨_, ⟨_, _, p3⟩, x1, y1, z1, kd, k⟩ := shd_ok k
  obtain ⟨rfl, rfl, rfl⟩ := dir_fun hd kd
  refine Or.inr (Or.inr ⟨by rw [List.length_append]; exact hl, ⟨o1, o2, bds_app o3 p3⟩, x, y, z, hd, ?_⟩)
  rcases h with ⟨h1, rfl⟩ | ⟨h1, h2, h3⟩ <;> rcases k with ⟨k1, rfl⟩ | ⟨k1, k2, k3⟩
  · exact Or.inl ⟨h1, rfl, rfl⟩
  · omega
  · omega
  · exact Or.inr (Or.inr ⟨h1, h2, by rw [blk_app, Bool.or_eq_true, h3, k3], rfl⟩)
theorem shd_none {T : List Q4} {m ex ey ez : Int} {L : List Bv} {r : Bool} (h : ShdR T m ex ey ez L r 0) : ∃ x y z u, AtR T m x y z u 0 ∧ ShdR T m ex ey ez [] (!u) 0 := by
  obtain ⟨_, ⟨o1, o2, _⟩, x, y, z, hd, h⟩ := shd_ok h
  refine ⟨x, y, z, decide (0 < z), Or.inl ⟨o1, rfl, hd, rfl⟩, Or.inr (Or.inr ⟨Nat.zero_le _, ⟨o1, o2, bds_nil⟩, x, y, z, hd, ?_⟩)⟩
  have hno : ¬ Blk ex ey ez x y z [] := by rintro ⟨k, hk, _⟩; exact absurd hk (Nat.not_lt_zero k)
  rcases h with ⟨h1, rfl⟩ | ⟨h1, h2, h3⟩
  · exact Or.inl ⟨h1, by rw [decide_eq_false (by omega)]; rfl, rfl⟩
  · exact Or.inr (Or.inr ⟨h1, h2, by rw [decide_eq_true h1]; exact iff_of_false (by decide) hno, rfl⟩)
set_option maxRecDepth 100000 in
set_option maxHeartbeats 4000000 in
theorem shade_0 (tA : Option Addr) (tC : Nat) (t : List Q4) (m ex ey ez : Int) (bA : Option Addr) (bC : Nat) (b : List Bv) (nA : Option Addr) (nC : Nat) (n : List Bv) (h4 : t.length ≤ 9223372036854775807) (h5 : b.length ≤ 9223372036854775807) (h7 : n.length ≤ 9223372036854775807) (h6 : ∀ k, k < b.length → (gdB b k).xs.length ≤ 9223372036854775807) (h8 : ∀ k, k < n.length → (gdB n k).xs.length ≤ 9223372036854775807) (hf : ¬ FewS t.length b) (w : World) (ht : S4 w tA t) (hm : BdS w bA b) (hn : BdS w nA n) :
    Calls Try.prog 4 #[.slice tA t.length tC, .int .i64 m, .agg #[.int .i64 ex, .int .i64 ey, .int .i64 ez], .slice bA b.length bC, .slice nA n.length nC] w fun e_ w' => e_ = .returned (.bool true) ∧ Below w.heap.size w w' := by
  have HF := Lib.hid (fun W (h : BdS W bA b) => few10_is tA tC t bA bC b h4 h5 h6 false (by simp [hf]) W h)
  clear hf
  have HT := Lib.hid ht
  clear ht
  have HM := Lib.hid hm
  clear hm
  have HN := Lib.hid hn
  clear hn
  go_enter Try.func4, Try.ntmps4
  go_wp2_with fail
  obtain ⟨w1, hw1⟩ : ∃ V, (w.alloc (.cells #[.int .i64 ex, .int .i64 ey, .int .i64 ez] 27)) = V := ⟨_, rfl⟩
  obtain ⟨hB_, kp⟩ := boxes1 _ _ hw1
  rw [hw1]
  clear hw1
  have HB := Lib.hid hB_
  clear hB_
  have p0 := (cells3 kp).1
  have p1 := (cells3 kp).2.1
  have p2 := (cells3 kp).2.2
  have lp := block_lt p0
  replace HT := Lib.hid (HT.out.below HB.out)
  replace HM := Lib.hid (HM.out.below HB.out)
  replace HN := Lib.hid (HN.out.below HB.out)
  with_reducible refine (head10_any _).mono ?_
  rintro e_ w2 ⟨rfl, hb⟩
  replace HB := Lib.hid (on_below HB.out hb)
  replace HT := Lib.hid (HT.out.below hb)
  replace HM := Lib.hid (HM.out.below hb)
  replace HN := Lib.hid (HN.out.below hb)
  replace p0 := keepc hb p0
  replace p1 := keepc hb p1
  replace p2 := keepc hb p2
  replace kp := blk_on kp hb
  replace lp := Nat.lt_of_lt_of_le lp hb.size
  clear hb
  go_wp2_with fail
  with_reducible refine (HF.out _ HM.out).mono ?_
  rintro e_ w3 ⟨rfl, hb⟩
  replace HB := Lib.hid (on_below HB.out hb)
  replace HT := Lib.hid (HT.out.below hb)
  replace HM := Lib.hid (HM.out.below hb)
  replace HN := Lib.hid (HN.out.below hb)
  replace p0 := keepc hb p0
  replace p1 := keepc hb p1
  replace p2 := keepc hb p2
  replace kp := blk_on kp hb
  replace lp := Nat.lt_of_lt_of_le lp hb.size
  clear hb
  go_wp2_with fail
  go_ret
  exact ⟨rfl, HB.out⟩
set_option maxRecDepth 100000 in
set_option maxHeartbeats 4000000 in
theorem shade_1 (tA : Option Addr) (tC : Nat) (t : List Q4) (m ex ey ez : Int) (bA : Option Addr) (bC : Nat) (b : List Bv) (nA : Option Addr) (nC : Nat) (n : List Bv) (h4 : t.length ≤ 9223372036854775807) (h5 : b.length ≤ 9223372036854775807) (h7 : n.length ≤ 9223372036854775807) (h6 : ∀ k, k < b.length → (gdB b k).xs.length ≤ 9223372036854775807) (h8 : ∀ k, k < n.length → (gdB n k).xs.length ≤ 9223372036854775807) (hf : FewS t.length b) (hg : ¬ FewS t.length n) (w : World) (ht : S4 w tA t) (hm : BdS w bA b) (hn : BdS w nA n) :
    Calls Try.prog 4 #[.slice tA t.length tC, .int .i64 m, .agg #[.int .i64 ex, .int .i64 ey, .int .i64 ez], .slice bA b.length bC, .slice nA n.length nC] w fun e_ w' => e_ = .returned (.bool true) ∧ Below w.heap.size w w' := by
  have HF := Lib.hid (fun W (h : BdS W bA b) => few10_is tA tC t bA bC b h4 h5 h6 true (by simp [hf]) W h)
  have HG := Lib.hid (fun W (h : BdS W nA n) => few10_is tA tC t nA nC n h4 h7 h8 false (by simp [hg]) W h)
  clear hf hg
  have HT := Lib.hid ht
  clear ht
  have HM := Lib.hid hm
  clear hm
  have HN := Lib.hid hn
  clear hn
  go_enter Try.func4, Try.ntmps4
  go_wp2_with fail
  obtain ⟨w1, hw1⟩ : ∃ V, (w.alloc (.cells #[.int .i64 ex, .int .i64 ey, .int .i64 ez] 27)) = V := ⟨_, rfl⟩
  obtain ⟨hB_, kp⟩ := boxes1 _ _ hw1
  rw [hw1]
  clear hw1
  have HB := Lib.hid hB_
  clear hB_
  have p0 := (cells3 kp).1
  have p1 := (cells3 kp).2.1
  have p2 := (cells3 kp).2.2
  have lp := block_lt p0
  replace HT := Lib.hid (HT.out.below HB.out)
  replace HM := Lib.hid (HM.out.below HB.out)
  replace HN := Lib.hid (HN.out.below HB.out)
  with_reducible refine (head10_any _).mono ?_
  rintro e_ w2 ⟨rfl, hb⟩
  replace HB := Lib.hid (on_below HB.out hb)
  replace HT := Lib.hid (HT.out.below hb)
  replace HM := Lib.hid (HM.out.below hb)
  replace HN := Lib.hid (HN.out.below hb)
  replace p0 := keepc hb p0
  replace p1 := keepc hb p1
  replace p2 := keepc hb p2
  replace kp := blk_on kp hb
  replace lp := Nat.lt_of_lt_of_le lp hb.size
  clear hb
  go_wp2_with fail
  with_reducible refine (HF.out _ HM.out).mono ?_
  rintro e_ w3 ⟨rfl, hb⟩
  replace HB := Lib.hid (on_below HB.out hb)
  replace HT := Lib.hid (HT.out.below hb)
  replace HM := Lib.hid (HM.out.below hb)
  replace HN := Lib.hid (HN.out.below hb)
  replace p0 := keepc hb p0
  replace p1 := keepc hb p1
  replace p2 := keepc hb p2
  replace kp := blk_on kp hb
  replace lp := Nat.lt_of_lt_of_le lp hb.size
  clear hb
  go_wp2_with fail
  with_reducible refine (HG.out _ HN.out).mono ?_
  rintro e_ w4 ⟨rfl, hb⟩
  replace HB := Lib.hid (on_below HB.out hb)
  replace HT := Lib.hid (HT.out.below hb)
  replace HM := Lib.hid (HM.out.below hb)
  replace HN := Lib.hid (HN.out.below hb)
  replace p0 := keepc hb p0
  replace p1 := keepc hb p1
  replace p2 := keepc hb p2
  replace kp := blk_on kp hb
  replace lp := Nat.lt_of_lt_of_le lp hb.size
  clear hb
  go_wp2_with fail
  go_ret
  exact ⟨rfl, HB.out⟩
set_option maxRecDepth 100000 in
set_option maxHeartbeats 4000000 in
theorem shade_2 (tA : Option Addr) (tC : Nat) (t : List Q4) (m ex ey ez : Int) (bA : Option Addr) (bC : Nat) (b : List Bv) (nA : Option Addr) (nC : Nat) (n : List Bv) (h4 : t.length ≤ 9223372036854775807) (h5 : b.length ≤ 9223372036854775807) (h7 : n.length ≤ 9223372036854775807) (h6 : ∀ k, k < b.length → (gdB b k).xs.length ≤ 9223372036854775807) (h8 : ∀ k, k < n.length → (gdB n k).xs.length ≤ 9223372036854775807) (hf : FewS t.length b) (hg : FewS t.length n) (r s : Bool) (E G : Int) (h1 : ShdR t m ex ey ez b r E) (h2 : ShdR t m ex ey ez n s G) (hE : E ≠ 0) (w : World) (ht : S4 w tA t) (hm : BdS w bA b) (hn : BdS w nA n) :
    Calls Try.prog 4 #[.slice tA t.length tC, .int .i64 m, .agg #[.int .i64 ex, .int .i64 ey, .int .i64 ez], .slice bA b.length bC, .slice nA n.length nC] w fun e_ w' => e_ = .returned (.bool true) ∧ Below w.heap.size w w' := by
  have HF := Lib.hid (fun W (h : BdS W bA b) => few10_is tA tC t bA bC b h4 h5 h6 true (by simp [hf]) W h)
  have HG := Lib.hid (fun W (h : BdS W nA n) => few10_is tA tC t nA nC n h4 h7 h8 true (by simp [hg]) W h)
  have C1 := Lib.hid (fun W (a : S4 W tA t) (c : BdS W bA b) => shd_is tA tC t m ex ey ez bA bC b h4 h5 (fun _ => fews_bsm hf) r E h1 W a c)
  have C2 := Lib.hid (fun W (a : S4 W tA t) (c : BdS W nA n) => shd_is tA tC t m ex ey ez nA nC n h4 h7 (fun _ => fews_bsm hg) s G h2 W a c)
  have z0 : (E != 0) = true := by simp [hE]
  clear hf hg h1 h2 hE
  have HT := Lib.hid ht
  clear ht
  have HM := Lib.hid hm
  clear hm
  have HN := Lib.hid hn
  clear hn
  go_enter Try.func4, Try.ntmps4
  go_wp2_with fail
  obtain ⟨w1, hw1⟩ : ∃ V, (w.alloc (.cells #[.int .i64 ex, .int .i64 ey, .int .i64 ez] 27)) = V := ⟨_, rfl⟩
  obtain ⟨hB_, kp⟩ := boxes1 _ _ hw1
  rw [hw1]
  clear hw1
  have HB := Lib.hid hB_
  clear hB_
  have p0 := (cells3 kp).1
  have p1 := (cells3 kp).2.1
  have p2 := (cells3 kp).2.2
  have lp := block_lt p0
  replace HT := Lib.hid (HT.out.below HB.out)
  replace HM := Lib.hid (HM.out.below HB.out)
  replace HN := Lib.hid (HN.out.below HB.out)
  with_reducible refine (head10_any _).mono ?_
  rintro e_ w2 ⟨rfl, hb⟩
  replace HB := Lib.hid (on_below HB.out hb)
  replace HT := Lib.hid (HT.out.below hb)
  replace HM := Lib.hid (HM.out.below hb)
  replace HN := Lib.hid (HN.out.below hb)
  replace p0 := keepc hb p0
  replace p1 := keepc hb p1
  replace p2 := keepc hb p2
  replace kp := blk_on kp hb
  replace lp := Nat.lt_of_lt_of_le lp hb.size
  clear hb
  go_wp2_with fail
  with_reducible refine (HF.out _ HM.out).mono ?_
  rintro e_ w3 ⟨rfl, hb⟩
  replace HB := Lib.hid (on_below HB.out hb)
  replace HT := Lib.hid (HT.out.below hb)
  replace HM := Lib.hid (HM.out.below hb)
  replace HN := Lib.hid (HN.out.below hb)
  replace p0 := keepc hb p0
  replace p1 := keepc hb p1
  replace p2 := keepc hb p2
  replace kp := blk_on kp hb
  replace lp := Nat.lt_of_lt_of_le lp hb.size
  clear hb
  go_wp2_with fail
  with_reducible refine (HG.out _ HN.out).mono ?_
  rintro e_ w4 ⟨rfl, hb⟩
  replace HB := Lib.hid (on_below HB.out hb)
  replace HT := Lib.hid (HT.out.below hb)
  replace HM := Lib.hid (HM.out.below hb)
  replace HN := Lib.hid (HN.out.below hb)
  replace p0 := keepc hb p0
  replace p1 := keepc hb p1
  replace p2 := keepc hb p2
  replace kp := blk_on kp hb
  replace lp := Nat.lt_of_lt_of_le lp hb.size
  clear hb
  go_wp2_with fail
  with_reducible refine (C1.out _ HT.out HM.out).mono ?_
  rintro e_ w5 ⟨rfl, hb⟩
  replace HB := Lib.hid (on_below HB.out hb)
  replace HT := Lib.hid (HT.out.below hb)
  replace HM := Lib.hid (HM.out.below hb)
  replace HN := Lib.hid (HN.out.below hb)
  replace p0 := keepc hb p0
  replace p1 := keepc hb p1
  replace p2 := keepc hb p2
  replace kp := blk_on kp hb
  replace lp := Nat.lt_of_lt_of_le lp hb.size
  clear hb
  go_wp2_with fail
  with_reducible refine (C2.out _ HT.out HN.out).mono ?_
  rintro e_ w6 ⟨rfl, hb⟩
  replace HB := Lib.hid (on_below HB.out hb)
  replace HT := Lib.hid (HT.out.below hb)
  replace HM := Lib.hid (HM.out.below hb)
  replace HN := Lib.hid (HN.out.below hb)
  replace p0 := keepc hb p0
  replace p1 := keepc hb p1
  replace p2 := keepc hb p2
  replace kp := blk_on kp hb
  replace lp := Nat.lt_of_lt_of_le lp hb.size
  clear hb
  go_wp2_with fail
  go_ret
  exact ⟨rfl, HB.out⟩
set_option maxRecDepth 100000 in
set_option maxHeartbeats 4000000 in
theorem shade_3 (tA : Option Addr) (tC : Nat) (t : List Q4) (m ex ey ez : Int) (bA : Option Addr) (bC : Nat) (b : List Bv) (nA : Option Addr) (nC : Nat) (n : List Bv) (h4 : t.length ≤ 9223372036854775807) (h5 : b.length ≤ 9223372036854775807) (h7 : n.length ≤ 9223372036854775807) (h6 : ∀ k, k < b.length → (gdB b k).xs.length ≤ 9223372036854775807) (h8 : ∀ k, k < n.length → (gdB n k).xs.length ≤ 9223372036854775807) (hf : FewS t.length b) (hg : FewS t.length n) (r s : Bool) (G : Int) (h1 : ShdR t m ex ey ez b r 0) (h2 : ShdR t m ex ey ez n s G) (hG : G ≠ 0) (w : World) (ht : S4 w tA t) (hm : BdS w bA b) (hn : BdS w nA n) :
    Calls Try.prog 4 #[.slice tA t.length tC, .int .i64 m, .agg #[.int .i64 ex, .int .i64 ey, .int .i64 ez], .slice bA b.length bC, .slice nA n.length nC] w fun e_ w' => e_ = .returned (.bool true) ∧ Below w.heap.size w w' := by
  have HF := Lib.hid (fun W (h : BdS W bA b) => few10_is tA tC t bA bC b h4 h5 h6 true (by simp [hf]) W h)
  have HG := Lib.hid (fun W (h : BdS W nA n) => few10_is tA tC t nA nC n h4 h7 h8 true (by simp [hg]) W h)
  have C1 := Lib.hid (fun W (a : S4 W tA t) (c : BdS W bA b) => shd_is tA tC t m ex ey ez bA bC b h4 h5 (fun _ => fews_bsm hf) r 0 h1 W a c)
  have C2 := Lib.hid (fun W (a : S4 W tA t) (c : BdS W nA n) => shd_is tA tC t m ex ey ez nA nC n h4 h7 (fun _ => fews_bsm hg) s G h2 W a c)
  have z0 : (G != 0) = true := by simp [hG]
  clear hf hg h1 h2 hG
  have HT := Lib.hid ht
  clear ht
  have HM := Lib.hid hm
  clear hm
  have HN := Lib.hid hn
  clear hn
  go_enter Try.func4, Try.ntmps4
  go_wp2_with fail
  obtain ⟨w1, hw1⟩ : ∃ V, (w.alloc (.cells #[.int .i64 ex, .int .i64 ey, .int .i64 ez] 27)) = V := ⟨_, rfl⟩
  obtain ⟨hB_, kp⟩ := boxes1 _ _ hw1
  rw [hw1]
  clear hw1
  have HB := Lib.hid hB_
  clear hB_
  have p0 := (cells3 kp).1
  have p1 := (cells3 kp).2.1
  have p2 := (cells3 kp).2.2
  have lp := block_lt p0
  replace HT := Lib.hid (HT.out.below HB.out)
  replace HM := Lib.hid (HM.out.below HB.out)
  replace HN := Lib.hid (HN.out.below HB.out)
  with_reducible refine (head10_any _).mono ?_
  rintro e_ w2 ⟨rfl, hb⟩
  replace HB := Lib.hid (on_below HB.out hb)
  replace HT := Lib.hid (HT.out.below hb)
  replace HM := Lib.hid (HM.out.below hb)
  replace HN := Lib.hid (HN.out.below hb)
  replace p0 := keepc hb p0
  replace p1 := keepc hb p1
  replace p2 := keepc hb p2
  replace kp := blk_on kp hb
  replace lp := Nat.lt_of_lt_of_le lp hb.size
  clear hb
  go_wp2_with fail
  with_reducible refine (HF.out _ HM.out).mono ?_
  rintro e_ w3 ⟨rfl, hb⟩
  replace HB := Lib.hid (on_below HB.out hb)
  replace HT := Lib.hid (HT.out.below hb)
  replace HM := Lib.hid (HM.out.below hb)
  replace HN := Lib.hid (HN.out.below hb)
  replace p0 := keepc hb p0
  replace p1 := keepc hb p1
  replace p2 := keepc hb p2
  replace kp := blk_on kp hb
  replace lp := Nat.lt_of_lt_of_le lp hb.size
  clear hb
  go_wp2_with fail
  with_reducible refine (HG.out _ HN.out).mono ?_
  rintro e_ w4 ⟨rfl, hb⟩
  replace HB := Lib.hid (on_below HB.out hb)
  replace HT := Lib.hid (HT.out.below hb)
  replace HM := Lib.hid (HM.out.below hb)
  replace HN := Lib.hid (HN.out.below hb)
  replace p0 := keepc hb p0
  replace p1 := keepc hb p1
  replace p2 := keepc hb p2
  replace kp := blk_on kp hb
  replace lp := Nat.lt_of_lt_of_le lp hb.size
  clear hb
  go_wp2_with fail
  with_reducible refine (C1.out _ HT.out HM.out).mono ?_
  rintro e_ w5 ⟨rfl, hb⟩
  replace HB := Lib.hid (on_below HB.out hb)
  replace HT := Lib.hid (HT.out.below hb)
  replace HM := Lib.hid (HM.out.below hb)
  replace HN := Lib.hid (HN.out.below hb)
  replace p0 := keepc hb p0
  replace p1 := keepc hb p1
  replace p2 := keepc hb p2
  replace kp := blk_on kp hb
  replace lp := Nat.lt_of_lt_of_le lp hb.size
  clear hb
  go_wp2_with fail
  with_reducible refine (C2.out _ HT.out HN.out).mono ?_
  rintro e_ w6 ⟨rfl, hb⟩
  replace HB := Lib.hid (on_below HB.out hb)
  replace HT := Lib.hid (HT.out.below hb)
  replace HM := Lib.hid (HM.out.below hb)
  replace HN := Lib.hid (HN.out.below hb)
  replace p0 := keepc hb p0
  replace p1 := keepc hb p1
  replace p2 := keepc hb p2
  replace kp := blk_on kp hb
  replace lp := Nat.lt_of_lt_of_le lp hb.size
  clear hb
  go_wp2_with fail
  go_ret
  exact ⟨rfl, HB.out⟩
set_option maxRecDepth 100000 in
set_option maxHeartbeats 4000000 in
theorem shade_4 (tA : Option Addr) (tC : Nat) (t : List Q4) (m ex ey ez : Int) (bA : Option Addr) (bC : Nat) (b : List Bv) (nA : Option Addr) (nC : Nat) (n : List Bv) (h4 : t.length ≤ 9223372036854775807) (h5 : b.length ≤ 9223372036854775807) (h7 : n.length ≤ 9223372036854775807) (h6 : ∀ k, k < b.length → (gdB b k).xs.length ≤ 9223372036854775807) (h8 : ∀ k, k < n.length → (gdB n k).xs.length ≤ 9223372036854775807) (hf : FewS t.length b) (hg : FewS t.length n) (r s : Bool) (h1 : ShdR t m ex ey ez b r 0) (h2 : ShdR t m ex ey ez n s 0) (hl : 60 < b.length + n.length) (w : World) (ht : S4 w tA t) (hm : BdS w bA b) (hn : BdS w nA n) :
    Calls Try.prog 4 #[.slice tA t.length tC, .int .i64 m, .agg #[.int .i64 ex, .int .i64 ey, .int .i64 ez], .slice bA b.length bC, .slice nA n.length nC] w fun e_ w' => e_ = .returned (.bool true) ∧ Below w.heap.size w w' := by
  have HF := Lib.hid (fun W (h : BdS W bA b) => few10_is tA tC t bA bC b h4 h5 h6 true (by simp [hf]) W h)
  have HG := Lib.hid (fun W (h : BdS W nA n) => few10_is tA tC t nA nC n h4 h7 h8 true (by simp [hg]) W h)
  have C1 := Lib.hid (fun W (a : S4 W tA t) (c : BdS W bA b) => shd_is tA tC t m ex ey ez bA bC b h4 h5 (fun _ => fews_bsm hf) r 0 h1 W a c)
  have C2 := Lib.hid (fun W (a : S4 W tA t) (c : BdS W nA n) => shd_is tA tC t m ex ey ez nA nC n h4 h7 (fun _ => fews_bsm hg) s 0 h2 W a c)
  have lb := hf.2.1
  have ln_ := hg.2.1
  have wl : wrap64 ((b.length : Int) + n.length) = (b.length : Int) + n.length := wrp2 ⟨by omega, by omega⟩
  have wl2 : IntKind.i64.wrap ((b.length : Int) + n.length) = (b.length : Int) + n.length := wrp1 ⟨by omega, by omega⟩
  have z1 : (60 : Int) < (b.length : Int) + n.length := by omega
  clear hf hg h1 h2 h4 h5 h6 h7 h8
  have HT := Lib.hid ht
  clear ht
  have HM := Lib.hid hm
  clear hm
  have HN := Lib.hid hn
  clear hn
  go_enter Try.func4, Try.ntmps4
  go_wp2_with fail
  obtain ⟨w1, hw1⟩ : ∃ V, (w.alloc (.cells #[.int .i64 ex, .int .i64 ey, .int .i64 ez] 27)) = V := ⟨_, rfl⟩
  obtain ⟨hB_, kp⟩ := boxes1 _ _ hw1
  rw [hw1]
  clear hw1
  have HB := Lib.hid hB_
  clear hB_
  have p0 := (cells3 kp).1
  have p1 := (cells3 kp).2.1
  have p2 := (cells3 kp).2.2
  have lp := block_lt p0
  replace HT := Lib.hid (HT.out.below HB.out)
  replace HM := Lib.hid (HM.out.below HB.out)
  replace HN := Lib.hid (HN.out.below HB.out)
  with_reducible refine (head10_any _).mono ?_
  rintro e_ w2 ⟨rfl, hb⟩
  replace HB := Lib.hid (on_below HB.out hb)
  replace HT := Lib.hid (HT.out.below hb)
  replace HM := Lib.hid (HM.out.below hb)
  replace HN := Lib.hid (HN.out.below hb)
  replace p0 := keepc hb p0
  replace p1 := keepc hb p1
  replace p2 := keepc hb p2
  replace kp := blk_on kp hb
  replace lp := Nat.lt_of_lt_of_le lp hb.size
  clear hb
  go_wp2_with fail
  with_reducible refine (HF.out _ HM.out).mono ?_
  rintro e_ w3 ⟨rfl, hb⟩
  replace HB := Lib.hid (on_below HB.out hb)
  replace HT := Lib.hid (HT.out.below hb)
  replace HM := Lib.hid (HM.out.below hb)
  replace HN := Lib.hid (HN.out.below hb)
  replace p0 := keepc hb p0
  replace p1 := keepc hb p1
  replace p2 := keepc hb p2
  replace kp := blk_on kp hb
  replace lp := Nat.lt_of_lt_of_le lp hb.size
  clear hb
  go_wp2_with fail
  with_reducible refine (HG.out _ HN.out).mono ?_
  rintro e_ w4 ⟨rfl, hb⟩
  replace HB := Lib.hid (on_below HB.out hb)
  replace HT := Lib.hid (HT.out.below hb)
  replace HM := Lib.hid (HM.out.below hb)
  replace HN := Lib.hid (HN.out.below hb)
  replace p0 := keepc hb p0
  replace p1 := keepc hb p1
  replace p2 := keepc hb p2
  replace kp := blk_on kp hb
  replace lp := Nat.lt_of_lt_of_le lp hb.size
  clear hb
  go_wp2_with fail
  with_reducible refine (C1.out _ HT.out HM.out).mono ?_
  rintro e_ w5 ⟨rfl, hb⟩
  replace HB := Lib.hid (on_below HB.out hb)
  replace HT := Lib.hid (HT.out.below hb)
  replace HM := Lib.hid (HM.out.below hb)
  replace HN := Lib.hid (HN.out.below hb)
  replace p0 := keepc hb p0
  replace p1 := keepc hb p1
  replace p2 := keepc hb p2
  replace kp := blk_on kp hb
  replace lp := Nat.lt_of_lt_of_le lp hb.size
  clear hb
  go_wp2_with fail
  with_reducible refine (C2.out _ HT.out HN.out).mono ?_
  rintro e_ w6 ⟨rfl, hb⟩
  replace HB := Lib.hid (on_below HB.out hb)
  replace HT := Lib.hid (HT.out.below hb)
  replace HM := Lib.hid (HM.out.below hb)
  replace HN := Lib.hid (HN.out.below hb)
  replace p0 := keepc hb p0
  replace p1 := keepc hb p1
  replace p2 := keepc hb p2
  replace kp := blk_on kp hb
  replace lp := Nat.lt_of_lt_of_le lp hb.size
  clear hb
  go_wp2_with fail
  go_ret
  exact ⟨rfl, HB.out⟩
set_option maxRecDepth 100000 in
set_option maxHeartbeats 4000000 in
theorem shade_5 (tA : Option Addr) (tC : Nat) (t : List Q4) (m ex ey ez : Int) (bA : Option Addr) (bC : Nat) (b : List Bv) (nA : Option Addr) (nC : Nat) (n : List Bv) (h4 : t.length ≤ 9223372036854775807) (h5 : b.length ≤ 9223372036854775807) (h7 : n.length ≤ 9223372036854775807) (h6 : ∀ k, k < b.length → (gdB b k).xs.length ≤ 9223372036854775807) (h8 : ∀ k, k < n.length → (gdB n k).xs.length ≤ 9223372036854775807) (hf : FewS t.length b) (hg : FewS t.length n) (r s : Bool) (h1 : ShdR t m ex ey ez b r 0) (h2 : ShdR t m ex ey ez n s 0) (hl : b.length + n.length ≤ 60) (x y z : Int) (u : Bool) (h3 : ShdR t m ex ey ez [] (!u) 0) (ha : AtR t m x y z u 0) (w : World) (ht : S4 w tA t) (hm : BdS w bA b) (hn : BdS w nA n) :
    Calls Try.prog 4 #[.slice tA t.length tC, .int .i64 m, .agg #[.int .i64 ex, .int .i64 ey, .int .i64 ez], .slice bA b.length bC, .slice nA n.length nC] w fun e_ w' => e_ = .returned (.bool true) ∧ Below w.heap.size w w' := by
  have HF := Lib.hid (fun W (h : BdS W bA b) => few10_is tA tC t bA bC b h4 h5 h6 true (by simp [hf]) W h)
  have HG := Lib.hid (fun W (h : BdS W nA n) => few10_is tA tC t nA nC n h4 h7 h8 true (by simp [hg]) W h)
  have C1 := Lib.hid (fun W (a : S4 W tA t) (c : BdS W bA b) => shd_is tA tC t m ex ey ez bA bC b h4 h5 (fun _ => fews_bsm hf) r 0 h1 W a c)
  have C2 := Lib.hid (fun W (a : S4 W tA t) (c : BdS W nA n) => shd_is tA tC t m ex ey ez nA nC n h4 h7 (fun _ => fews_bsm hg) s 0 h2 W a c)
  obtain ⟨q, hq⟩ : ∃ q, (r || s) = q := ⟨_, rfl⟩
  have lb := hf.2.1
  have ln_ := hg.2.1
  have C5 := Lib.hid (fun A C W (a : S4 W tA t) (c : BdS W A (b ++ n)) => shd_is tA tC t m ex ey ez A C (b ++ n) h4 (by rw [List.length_append]; omega) (fun _ => bsm_app (fews_bsm hf) (fews_bsm hg)) q 0 (hq ▸ shd_app h1 h2 hl) W a c)
  have C6 := Lib.hid (fun A C W (a : S4 W tA t) (c : BdS W A (n ++ b)) => shd_is tA tC t m ex ey ez A C (n ++ b) h4 (by rw [List.length_append]; omega) (fun _ => bsm_app (fews_bsm hg) (fews_bsm hf)) q 0 (hq ▸ (Bool.or_comm r s ▸ shd_app h2 h1 (by omega))) W a c)
  have C3 := Lib.hid (fun W (a : S4 W tA t) => shd_is tA tC t m ex ey ez none 0 [] h4 (by simp) (fun _ k hk => absurd hk (Nat.not_lt_zero k)) (!u) 0 h3 W a (BdS.nil W none))
  have C4 := Lib.hid (fun W (a : S4 W tA t) => at_is tA tC t m h4 x y z u 0 ha W a)
  have wl : wrap64 ((b.length : Int) + n.length) = (b.length : Int) + n.length := wrp2 ⟨by omega, by omega⟩
  have wl2 : IntKind.i64.wrap ((b.length : Int) + n.length) = (b.length : Int) + n.length := wrp1 ⟨by omega, by omega⟩
  have z1 : ¬ (60 : Int) < (b.length : Int) + n.length := by omega
  obtain ⟨i0, hi0, hz0, hz1, hz2⟩ := info_of (show (Try.prog.info? 42).map (fun i => (i.zero, i.size, i.bytes)) = some (some (.agg #[.slice none 0 0, .int .i64 0, .int .i64 0]), 3, 40) by kernel_rfl)
  simp only [List.length_append, List.length_nil] at C3 C5 C6
  clear h1 h2 h3 ha hf hg h4 h5 h6 h7 h8
  have HT := Lib.hid ht
  clear ht
  have HM := Lib.hid hm
  clear hm
  have HN := Lib.hid hn
  clear hn
  go_enter Try.func4, Try.ntmps4
  go_wp2_with fail
  obtain ⟨w1, hw1⟩ : ∃ V, (w.alloc (.cells #[.int .i64 ex, .int .i64 ey, .int .i64 ez] 27)) = V := ⟨_, rfl⟩
  obtain ⟨hB_, kp⟩ := boxes1 _ _ hw1
  rw [hw1]
  clear hw1
  have HB := Lib.hid hB_
  clear hB_
  have p0 := (cells3 kp).1
  have p1 := (cells3 kp).2.1
  have p2 := (cells3 kp).2.2
  have lp := block_lt p0
  replace HT := Lib.hid (HT.out.below HB.out)
  replace HM := Lib.hid (HM.out.below HB.out)
  replace HN := Lib.hid (HN.out.below HB.out)
  with_reducible refine (head10_any _).mono ?_
  rintro e_ w2 ⟨rfl, hb⟩
  replace HB := Lib.hid (on_below HB.out hb)
  replace HT := Lib.hid (HT.out.below hb)
  replace HM := Lib.hid (HM.out.below hb)
  replace HN := Lib.hid (HN.out.below hb)
  replace p0 := keepc hb p0
  replace p1 := keepc hb p1
  replace p2 := keepc hb p2
  replace kp := blk_on kp hb
  replace lp := Nat.lt_of_lt_of_le lp hb.size
  clear hb
  go_wp2_with fail
  with_reducible refine (HF.out _ HM.out).mono ?_
  rintro e_ w3 ⟨rfl, hb⟩
  replace HB := Lib.hid (on_below HB.out hb)
  replace HT := Lib.hid (HT.out.below hb)
  replace HM := Lib.hid (HM.out.below hb)
  replace HN := Lib.hid (HN.out.below hb)
  replace p0 := keepc hb p0
  replace p1 := keepc hb p1
  replace p2 := keepc hb p2
  replace kp := blk_on kp hb
  replace lp := Nat.lt_of_lt_of_le lp hb.size
  clear hb
  go_wp2_with fail
  with_reducible refine (HG.out _ HN.out).mono ?_
  rintro e_ w4 ⟨rfl, hb⟩
  replace HB := Lib.hid (on_below HB.out hb)
  replace HT := Lib.hid (HT.out.below hb)
  replace HM := Lib.hid (HM.out.below hb)
  replace HN := Lib.hid (HN.out.below hb)
  replace p0 := keepc hb p0
  replace p1 := keepc hb p1
  replace p2 := keepc hb p2
  replace kp := blk_on kp hb
  replace lp := Nat.lt_of_lt_of_le lp hb.size
  clear hb
  go_wp2_with fail
  with_reducible refine (C1.out _ HT.out HM.out).mono ?_
  rintro e_ w5 ⟨rfl, hb⟩
  replace HB := Lib.hid (on_below HB.out hb)
  replace HT := Lib.hid (HT.out.below hb)
  replace HM := Lib.hid (HM.out.below hb)
  replace HN := Lib.hid (HN.out.below hb)
  replace p0 := keepc hb p0
  replace p1 := keepc hb p1
  replace p2 := keepc hb p2
  replace kp := blk_on kp hb
  replace lp := Nat.lt_of_lt_of_le lp hb.size
  clear hb
  go_wp2_with fail
  with_reducible refine (C2.out _ HT.out HN.out).mono ?_
  rintro e_ w6 ⟨rfl, hb⟩
  replace HB := Lib.hid (on_below HB.out hb)
  replace HT := Lib.hid (HT.out.below hb)
  replace HM := Lib.hid (HM.out.below hb)
  replace HN := Lib.hid (HN.out.below hb)
  replace p0 := keepc hb p0
  replace p1 := keepc hb p1
  replace p2 := keepc hb p2
  replace kp := blk_on kp hb
  replace lp := Nat.lt_of_lt_of_le lp hb.size
  clear hb
  go_wp2_with fail
  with_reducible refine (C3.out _ HT.out).mono ?_
  rintro e_ w7 ⟨rfl, hb⟩
  replace HB := Lib.hid (on_below HB.out hb)
  replace HT := Lib.hid (HT.out.below hb)
  replace HM := Lib.hid (HM.out.below hb)
  replace HN := Lib.hid (HN.out.below hb)
  replace p0 := keepc hb p0
  replace p1 := keepc hb p1
  replace p2 := keepc hb p2
  replace kp := blk_on kp hb
  replace lp := Nat.lt_of_lt_of_le lp hb.size
  clear hb
  go_wp2_with fail
  with_reducible refine (C4.out _ HT.out).mono ?_
  rintro e_ w8 ⟨rfl, hb⟩
  replace HB := Lib.hid (on_below HB.out hb)
  replace HT := Lib.hid (HT.out.below hb)
  replace HM := Lib.hid (HM.out.below hb)
  replace HN := Lib.hid (HN.out.below hb)
  replace p0 := keepc hb p0
  replace p1 := keepc hb p1
  replace p2 := keepc hb p2
  replace kp := blk_on kp hb
  replace lp := Nat.lt_of_lt_of_le lp hb.size
  clear hb
  go_wp2_with fail
  have d0 : World.cell? (w8.alloc (.cells #[.int .i64 x, .int .i64 y, .int .i64 z] 27)) ⟨w8.heap.size, 0, none⟩ = some (.int .i64 x) := by simp [go_sem]
  have d1 : World.cell? (w8.alloc (.cells #[.int .i64 x, .int .i64 y, .int .i64 z] 27)) ⟨w8.heap.size, 1, none⟩ = some (.int .i64 y) := by simp [go_sem]
  have d2 : World.cell? (w8.alloc (.cells #[.int .i64 x, .int .i64 y, .int .i64 z] 27)) ⟨w8.heap.size, 2, none⟩ = some (.int .i64 z) := by simp [go_sem]
  have ld : w8.heap.size < (w8.alloc (.cells #[.int .i64 x, .int .i64 y, .int .i64 z] 27)).heap.size := by simp
  have hb : Below w8.heap.size w8 (w8.alloc (.cells #[.int .i64 x, .int .i64 y, .int .i64 z] 27)) := below_new _ _
  generalize w8.alloc (.cells #[.int .i64 x, .int .i64 y, .int .i64 z] 27) = w9 at *
  replace HB := Lib.hid (on_below HB.out hb)
  replace HT := Lib.hid (HT.out.below hb)
  replace HM := Lib.hid (HM.out.below hb)
  replace HN := Lib.hid (HN.out.below hb)
  replace p0 := keepc hb p0
  replace p1 := keepc hb p1
  replace p2 := keepc hb p2
  replace kp := blk_on kp hb
  replace lp := Nat.lt_of_lt_of_le lp hb.size
  clear hb
  generalize w8.heap.size = gd at *
  go_wp2_with fail
  have kp : ∀ {W : World}, Below w9.heap.size w9 W → W.cell? ⟨w.heap.size, 0, none⟩ = some (.int .i64 ex) ∧ W.cell? ⟨w.heap.size, 1, none⟩ = some (.int .i64 ey) ∧ W.cell? ⟨w.heap.size, 2, none⟩ = some (.int .i64 ez) := fun h => ⟨keepc h p0, keepc h p1, keepc h p2⟩
  refine wp_region_held_drew (S := fun V => V.cell? ⟨w.heap.size, 0, none⟩ = some (.int .i64 ex) ∧ V.cell? ⟨w.heap.size, 1, none⟩ = some (.int .i64 ey) ∧ V.cell? ⟨w.heap.size, 2, none⟩ = some (.int .i64 ez)) (by kernel_rfl) (kp (Below.refl _ _).drew) fun HL_ => ?_
  refine wpAnyH_take (i := 0) (v := .slice tA t.length tC) rfl (by kernel_rfl) (by kernel_rfl) (by kernel_rfl) (fun _ _ _ h => h) (Or.inl ⟨by kernel_rfl, ?_⟩) HL_ ?_
  · rintro Wl ⟨s0, s1, s2⟩
    go_simp
  simp only [Act.put, List.getElem_toArray, List.getElem_cons_succ, List.getElem_cons_zero, List.setIfInBounds_toArray, List.set_cons_zero, List.set_cons_succ]
  refine wpAnyH_take (i := 1) (v := .int .i64 m) rfl (by kernel_rfl) (by kernel_rfl) (by kernel_rfl) (fun _ _ _ h => h) (Or.inl ⟨by kernel_rfl, ?_⟩) HL_ ?_
  · rintro Wl ⟨s0, s1, s2⟩
    go_simp
  simp only [Act.put, List.getElem_toArray, List.getElem_cons_succ, List.getElem_cons_zero, List.setIfInBounds_toArray, List.set_cons_zero, List.set_cons_succ]
  refine wpAnyH_take (i := 2) (v := .agg #[.int .i64 ex, .int .i64 ey, .int .i64 ez]) rfl (by kernel_rfl) (by kernel_rfl) (by kernel_rfl) (fun _ _ _ h => h) (Or.inl ⟨by kernel_rfl, ?_⟩) HL_ ?_
  · rintro Wl ⟨s0, s1, s2⟩
    go_simp
  simp only [Act.put, List.getElem_toArray, List.getElem_cons_succ, List.getElem_cons_zero, List.setIfInBounds_toArray, List.set_cons_zero, List.set_cons_succ]
  refine wpAnyH_take (i := 4) (v := .slice bA b.length bC) rfl (by kernel_rfl) (by kernel_rfl) (by kernel_rfl) (fun _ _ _ h => h) (Or.inl ⟨by kernel_rfl, ?_⟩) HL_ ?_
  · rintro Wl ⟨s0, s1, s2⟩
    go_simp
  simp only [Act.put, List.getElem_toArray, List.getElem_cons_succ, List.getElem_cons_zero, List.setIfInBounds_toArray, List.set_cons_zero, List.set_cons_succ]
  refine wpAnyH_take (i := 6) (v := .slice nA n.length nC) rfl (by kernel_rfl) (by kernel_rfl) (by kernel_rfl) (fun _ _ _ h => h) (Or.inl ⟨by kernel_rfl, ?_⟩) HL_ ?_
  · rintro Wl ⟨s0, s1, s2⟩
    go_simp
  simp only [Act.put, List.getElem_toArray, List.getElem_cons_succ, List.getElem_cons_zero, List.setIfInBounds_toArray, List.set_cons_zero, List.set_cons_succ]
  refine wpAnyH_ready (rs := [3]) (by kernel_rfl) (by simp) ?_
  refine AllReadyH.cons (o := _) rfl (fun K hK => ?_) AllReadyH.nil
  go_simp
  have own0 := (own_lit w9 w9.heap.size 42 3 (Nat.le_refl _)).drew
  have hb0 : Below w9.heap.size w9 (w9.alloc (.cells #[] 42)).drew := (below_new w9 (.cells #[] 42)).drew
  refine hK.out _ _ (kp hb0) fun HL_ => ?_
  clear hK K
  generalize (w9.alloc (.cells #[] 42)).drew = u10 at *
  skip
  refine wpAnyH_ready (rs := [5]) (by kernel_rfl) (by simp) ?_
  refine AllReadyH.cons (o := _) rfl (fun K hK => ?_) AllReadyH.nil
  refine step_app _ (by rfl) _ _ _ (by rfl) w9.heap.size 42 i0 _ 3 40 Try.underlying34 hi0 hz0 hz1 hz2 rfl (by omega) _ 0 [] (by rfl) own0 bA b.length bC (flt bvc b) (by rfl) (flt_len bvc_len b) (bds_src (HM.out.below hb0)) (flt_one bvc_one b) (by unfold maxLen; omega) (by omega) hb0.size ?_
  intro v1 u11 own1 gr1
  have hb1 := app_below hb0 hb0.size own0 (Nat.le_refl _) gr1
  clear gr1 own0 hb0
  refine hK.out _ _ (kp hb1) fun HL_ => ?_
  clear hK K
  refine wpAnyH_ready (rs := [7]) (by kernel_rfl) (by simp) ?_
  refine AllReadyH.cons (o := _) rfl (fun K hK => ?_) AllReadyH.nil
  refine step_app _ (by rfl) _ _ _ (by rfl) w9.heap.size 42 i0 _ 3 40 Try.underlying34 hi0 hz0 hz1 hz2 rfl (by omega) _ (0 + b.length) ([] ++ flt bvc b) (by rfl) own1 nA n.length nC (flt bvc n) (by rfl) (flt_len bvc_len n) (bds_src (HN.out.below hb1)) (flt_one bvc_one n) (by unfold maxLen; omega) (by omega) hb1.size ?_
  intro v2 u12 own2 gr2
  have hb2 := app_below hb1 hb1.size own1 (Nat.le_refl _) gr2
  clear gr2 own1 hb1
  refine hK.out _ _ (kp hb2) fun HL_ => ?_
  clear hK K
  rw [List.nil_append, flt_app] at own2
  obtain ⟨xA, xC, rfl, hxn, hx1, hx2, hxs⟩ := own_bds own2 (sls_app (HM.out.below hb2) (HN.out.below hb2))
  clear own2 hxn hx1 hx2
  refine wpAnyH_ready (rs := [8]) (by kernel_rfl) (by simp) ?_
  refine AllReadyH.cons (o := _) rfl (fun K hK => ?_) AllReadyH.nil
  go_simp
  go_simp
  with_reducible refine (C5.out xA xC u12 (HT.out.below hb2) hxs).mono ?_
  rintro e_ u13 ⟨rfl, hb⟩
  replace hb := on_below hb2 hb
  clear hxs hb2
  refine hK.out _ _ (kp hb) fun HL_ => ?_
  clear hK K
  refine wpAnyH_take (i := 9) (v := .tuple #[.bool q, .int .i64 0]) rfl (by kernel_rfl) (by kernel_rfl) (by kernel_rfl) (fun _ _ _ h => h) (Or.inl ⟨by kernel_rfl, ?_⟩) HL_ ?_
  · rintro Wl ⟨s0, s1, s2⟩
    go_simp
  simp only [Act.put, List.getElem_toArray, List.getElem_cons_succ, List.getElem_cons_zero, List.setIfInBounds_toArray, List.set_cons_zero, List.set_cons_succ]
  refine wpAnyH_take (i := 10) (v := .bool q) rfl (by kernel_rfl) (by kernel_rfl) (by kernel_rfl) (fun _ _ _ h => h) (Or.inl ⟨by kernel_rfl, ?_⟩) HL_ ?_
  · rintro Wl ⟨s0, s1, s2⟩
    go_simp
  simp only [Act.put, List.getElem_toArray, List.getElem_cons_succ, List.getElem_cons_zero, List.setIfInBounds_toArray, List.set_cons_zero, List.set_cons_succ]
  refine wpAnyH_take (i := 11) (v := .int .i64 0) rfl (by kernel_rfl) (by kernel_rfl) (by kernel_rfl) (fun _ _ _ h => h) (Or.inl ⟨by kernel_rfl, ?_⟩) HL_ ?_
  · rintro Wl ⟨s0, s1, s2⟩
    go_simp
  simp only [Act.put, List.getElem_toArray, List.getElem_cons_succ, List.getElem_cons_zero, List.setIfInBounds_toArray, List.set_cons_zero, List.set_cons_succ]
  refine wpAnyH_take (i := 12) (v := .bool q) rfl (by kernel_rfl) (by kernel_rfl) (by kernel_rfl) (fun _ _ _ h => h) (Or.inl ⟨by kernel_rfl, ?_⟩) HL_ ?_
  · rintro Wl ⟨s0, s1, s2⟩
    go_simp
  simp only [Act.put, List.getElem_toArray, List.getElem_cons_succ, List.getElem_cons_zero, List.setIfInBounds_toArray, List.set_cons_zero, List.set_cons_succ]
  refine wpAnyH_take (i := 13) (v := .int .i64 0) rfl (by kernel_rfl) (by kernel_rfl) (by kernel_rfl) (fun _ _ _ h => h) (Or.inl ⟨by kernel_rfl, ?_⟩) HL_ ?_
  · rintro Wl ⟨s0, s1, s2⟩
    go_simp
  simp only [Act.put, List.getElem_toArray, List.getElem_cons_succ, List.getElem_cons_zero, List.setIfInBounds_toArray, List.set_cons_zero, List.set_cons_succ]
  refine wpAnyH_done (by kernel_rfl) ?_ _
  clear HL_ kp
  replace HB := Lib.hid (on_below HB.out hb)
  replace HT := Lib.hid (HT.out.below hb)
  replace HM := Lib.hid (HM.out.below hb)
  replace HN := Lib.hid (HN.out.below hb)
  replace p0 := keepc hb p0
  replace p1 := keepc hb p1
  replace p2 := keepc hb p2
  replace d0 := keepc hb d0
  replace d1 := keepc hb d1
  replace d2 := keepc hb d2
  replace kp := blk_on kp hb
  replace lp := Nat.lt_of_lt_of_le lp hb.size
  replace ld := Nat.lt_of_lt_of_le ld hb.size
  clear hb
  go_wp2_with fail
  have kp : ∀ {W : World}, Below u13.heap.size u13 W → W.cell? ⟨w.heap.size, 0, none⟩ = some (.int .i64 ex) ∧ W.cell? ⟨w.heap.size, 1, none⟩ = some (.int .i64 ey) ∧ W.cell? ⟨w.heap.size, 2, none⟩ = some (.int .i64 ez) := fun h => ⟨keepc h p0, keepc h p1, keepc h p2⟩
  refine wp_region_held_drew (S := fun V => V.cell? ⟨w.heap.size, 0, none⟩ = some (.int .i64 ex) ∧ V.cell? ⟨w.heap.size, 1, none⟩ = some (.int .i64 ey) ∧ V.cell? ⟨w.heap.size, 2, none⟩ = some (.int .i64 ez)) (by kernel_rfl) (kp (Below.refl _ _).drew) fun HL_ => ?_
  refine wpAnyH_take (i := 0) (v := .slice tA t.length tC) rfl (by kernel_rfl) (by kernel_rfl) (by kernel_rfl) (fun _ _ _ h => h) (Or.inl ⟨by kernel_rfl, ?_⟩) HL_ ?_
  · rintro Wl ⟨s0, s1, s2⟩
    go_simp
  simp only [Act.put, List.getElem_toArray, List.getElem_cons_succ, List.getElem_cons_zero, List.setIfInBounds_toArray, List.set_cons_zero, List.set_cons_succ]
  refine wpAnyH_take (i := 1) (v := .int .i64 m) rfl (by kernel_rfl) (by kernel_rfl) (by kernel_rfl) (fun _ _ _ h => h) (Or.inl ⟨by kernel_rfl, ?_⟩) HL_ ?_
  · rintro Wl ⟨s0, s1, s2⟩
    go_simp
  simp only [Act.put, List.getElem_toArray, List.getElem_cons_succ, List.getElem_cons_zero, List.setIfInBounds_toArray, List.set_cons_zero, List.set_cons_succ]
  refine wpAnyH_take (i := 2) (v := .agg #[.int .i64 ex, .int .i64 ey, .int .i64 ez]) rfl (by kernel_rfl) (by kernel_rfl) (by kernel_rfl) (fun _ _ _ h => h) (Or.inl ⟨by kernel_rfl, ?_⟩) HL_ ?_
  · rintro Wl ⟨s0, s1, s2⟩
    go_simp
  simp only [Act.put, List.getElem_toArray, List.getElem_cons_succ, List.getElem_cons_zero, List.setIfInBounds_toArray, List.set_cons_zero, List.set_cons_succ]
  refine wpAnyH_take (i := 4) (v := .slice nA n.length nC) rfl (by kernel_rfl) (by kernel_rfl) (by kernel_rfl) (fun _ _ _ h => h) (Or.inl ⟨by kernel_rfl, ?_⟩) HL_ ?_
  · rintro Wl ⟨s0, s1, s2⟩
    go_simp
  simp only [Act.put, List.getElem_toArray, List.getElem_cons_succ, List.getElem_cons_zero, List.setIfInBounds_toArray, List.set_cons_zero, List.set_cons_succ]
  refine wpAnyH_take (i := 6) (v := .slice bA b.length bC) rfl (by kernel_rfl) (by kernel_rfl) (by kernel_rfl) (fun _ _ _ h => h) (Or.inl ⟨by kernel_rfl, ?_⟩) HL_ ?_
  · rintro Wl ⟨s0, s1, s2⟩
    go_simp
  simp only [Act.put, List.getElem_toArray, List.getElem_cons_succ, List.getElem_cons_zero, List.setIfInBounds_toArray, List.set_cons_zero, List.set_cons_succ]
  refine wpAnyH_ready (rs := [3]) (by kernel_rfl) (by simp) ?_
  refine AllReadyH.cons (o := _) rfl (fun K hK => ?_) AllReadyH.nil
  go_simp
  have own0 := (own_lit u13 u13.heap.size 42 3 (Nat.le_refl _)).drew
  have hb0 : Below u13.heap.size u13 (u13.alloc (.cells #[] 42)).drew := (below_new u13 (.cells #[] 42)).drew
  refine hK.out _ _ (kp hb0) fun HL_ => ?_
  clear hK K
  generalize (u13.alloc (.cells #[] 42)).drew = u20 at *
  skip
  refine wpAnyH_ready (rs := [5]) (by kernel_rfl) (by simp) ?_
  refine AllReadyH.cons (o := _) rfl (fun K hK => ?_) AllReadyH.nil
  refine step_app _ (by rfl) _ _ _ (by rfl) u13.heap.size 42 i0 _ 3 40 Try.underlying34 hi0 hz0 hz1 hz2 rfl (by omega) _ 0 [] (by rfl) own0 nA n.length nC (flt bvc n) (by rfl) (flt_len bvc_len n) (bds_src (HN.out.below hb0)) (flt_one bvc_one n) (by unfold maxLen; omega) (by omega) hb0.size ?_
  intro v1 u21 own1 gr1
  have hb1 := app_below hb0 hb0.size own0 (Nat.le_refl _) gr1
  clear gr1 own0 hb0
  refine hK.out _ _ (kp hb1) fun HL_ => ?_
  clear hK K
  refine wpAnyH_ready (rs := [7]) (by kernel_rfl) (by simp) ?_
  refine AllReadyH.cons (o := _) rfl (fun K hK => ?_) AllReadyH.nil
  refine step_app _ (by rfl) _ _ _ (by rfl) u13.heap.size 42 i0 _ 3 40 Try.underlying34 hi0 hz0 hz1 hz2 rfl (by omega) _ (0 + n.length) ([] ++ flt bvc n) (by rfl) own1 bA b.length bC (flt bvc b) (by rfl) (flt_len bvc_len b) (bds_src (HM.out.below hb1)) (flt_one bvc_one b) (by unfold maxLen; omega) (by omega) hb1.size ?_
  intro v2 u22 own2 gr2
  have hb2 := app_below hb1 hb1.size own1 (Nat.le_refl _) gr2
  clear gr2 own1 hb1
  refine hK.out _ _ (kp hb2) fun HL_ => ?_
  clear hK K
  rw [List.nil_append, flt_app] at own2
  obtain ⟨xA, xC, rfl, hxn, hx1, hx2, hxs⟩ := own_bds own2 (sls_app (HN.out.below hb2) (HM.out.below hb2))
  clear own2 hxn hx1 hx2
  refine wpAnyH_ready (rs := [8]) (by kernel_rfl) (by simp) ?_
  refine AllReadyH.cons (o := _) rfl (fun K hK => ?_) AllReadyH.nil
  go_simp
  go_simp
  with_reducible refine (C6.out xA xC u22 (HT.out.below hb2) hxs).mono ?_
  rintro e_ u23 ⟨rfl, hb⟩
  replace hb := on_below hb2 hb
  clear hxs hb2
  refine hK.out _ _ (kp hb) fun HL_ => ?_
  clear hK K
  refine wpAnyH_take (i := 9) (v := .tuple #[.bool q, .int .i64 0]) rfl (by kernel_rfl) (by kernel_rfl) (by kernel_rfl) (fun _ _ _ h => h) (Or.inl ⟨by kernel_rfl, ?_⟩) HL_ ?_
  · rintro Wl ⟨s0, s1, s2⟩
    go_simp
  simp only [Act.put, List.getElem_toArray, List.getElem_cons_succ, List.getElem_cons_zero, List.setIfInBounds_toArray, List.set_cons_zero, List.set_cons_succ]
  refine wpAnyH_take (i := 10) (v := .bool q) rfl (by kernel_rfl) (by kernel_rfl) (by kernel_rfl) (fun _ _ _ h => h) (Or.inl ⟨by kernel_rfl, ?_⟩) HL_ ?_
  · rintro Wl ⟨s0, s1, s2⟩
    go_simp
  simp only [Act.put, List.getElem_toArray, List.getElem_cons_succ, List.getElem_cons_zero, List.setIfInBounds_toArray, List.set_cons_zero, List.set_cons_succ]
  refine wpAnyH_take (i := 11) (v := .int .i64 0) rfl (by kernel_rfl) (by kernel_rfl) (by kernel_rfl) (fun _ _ _ h => h) (Or.inl ⟨by kernel_rfl, ?_⟩) HL_ ?_
  · rintro Wl ⟨s0, s1, s2⟩
    go_simp
  simp only [Act.put, List.getElem_toArray, List.getElem_cons_succ, List.getElem_cons_zero, List.setIfInBounds_toArray, List.set_cons_zero, List.set_cons_succ]
  refine wpAnyH_take (i := 12) (v := .bool q) rfl (by kernel_rfl) (by kernel_rfl) (by kernel_rfl) (fun _ _ _ h => h) (Or.inl ⟨by kernel_rfl, ?_⟩) HL_ ?_
  · rintro Wl ⟨s0, s1, s2⟩
    go_simp
  simp only [Act.put, List.getElem_toArray, List.getElem_cons_succ, List.getElem_cons_zero, List.setIfInBounds_toArray, List.set_cons_zero, List.set_cons_succ]
  refine wpAnyH_take (i := 13) (v := .int .i64 0) rfl (by kernel_rfl) (by kernel_rfl) (by kernel_rfl) (fun _ _ _ h => h) (Or.inl ⟨by kernel_rfl, ?_⟩) HL_ ?_
  · rintro Wl ⟨s0, s1, s2⟩
    go_simp
  simp only [Act.put, List.getElem_toArray, List.getElem_cons_succ, List.getElem_cons_zero, List.setIfInBounds_toArray, List.set_cons_zero, List.set_cons_succ]
  refine wpAnyH_done (by kernel_rfl) ?_ _
  clear HL_ kp
  replace HB := Lib.hid (on_below HB.out hb)
  replace HT := Lib.hid (HT.out.below hb)
  replace HM := Lib.hid (HM.out.below hb)
  replace HN := Lib.hid (HN.out.below hb)
  replace p0 := keepc hb p0
  replace p1 := keepc hb p1
  replace p2 := keepc hb p2
  replace d0 := keepc hb d0
  replace d1 := keepc hb d1
  replace d2 := keepc hb d2
  replace kp := blk_on kp hb
  replace lp := Nat.lt_of_lt_of_le lp hb.size
  replace ld := Nat.lt_of_lt_of_le ld hb.size
  clear hb
  subst hq
  cases u <;> cases r <;> cases s
  all_goals go_wp2_with fail
  all_goals go_ret
  all_goals exact ⟨rfl, HB.out⟩
theorem law_any (tA : Option Addr) (tC : Nat) (t : List Q4) (m : Int) (im : I64 m) (ex ey ez : Int) (bA : Option Addr) (bC : Nat) (b : List Bv) (nA : Option Addr) (nC : Nat) (n : List Bv) (w : World) (lt : L4 w tA tC t) (lb : LB w bA bC b) (ln : LB w nA nC n) :
    Calls Try.prog 4 #[.slice tA t.length tC, .int .i64 m, .agg #[.int .i64 ex, .int .i64 ey, .int .i64 ez], .slice bA b.length bC, .slice nA n.length nC] w fun e_ w' => e_ = .returned (.bool true) ∧ Below w.heap.size w w' := by
  have h4 : t.length ≤ 9223372036854775807 := Nat.le_trans lt.cap.1 lt.cap.2
  have h5 : b.length ≤ 9223372036854775807 := Nat.le_trans lb.cap.1 lb.cap.2
  have h7 : n.length ≤ 9223372036854775807 := Nat.le_trans ln.cap.1 ln.cap.2
  have h6 := lb.len
  have h8 := ln.len
  by_cases hf : FewS t.length b
  · by_cases hg : FewS t.length n
    · obtain ⟨r, E, h1⟩ := shd_ex t m ex ey ez b
      obtain ⟨s, G, h2⟩ := shd_ex t m ex ey ez n
      by_cases hE : E = 0
      · subst hE
        by_cases hG : G = 0
        · subst hG
          by_cases hl : b.length + n.length ≤ 60
          · obtain ⟨x, y, z, u, ha, h3⟩ := shd_none h1
            exact shade_5 tA tC t m ex ey ez bA bC b nA nC n h4 h5 h7 h6 h8 hf hg r s h1 h2 hl x y z u h3 ha w lt.sl lb.sl ln.sl
          · exact shade_4 tA tC t m ex ey ez bA bC b nA nC n h4 h5 h7 h6 h8 hf hg r s h1 h2 (by omega) w lt.sl lb.sl ln.sl
        · exact shade_3 tA tC t m ex ey ez bA bC b nA nC n h4 h5 h7 h6 h8 hf hg r s G h1 h2 hG w lt.sl lb.sl ln.sl
      · exact shade_2 tA tC t m ex ey ez bA bC b nA nC n h4 h5 h7 h6 h8 hf hg r s E G h1 h2 hE w lt.sl lb.sl ln.sl
    · exact shade_1 tA tC t m ex ey ez bA bC b nA nC n h4 h5 h7 h6 h8 hf hg w lt.sl lb.sl ln.sl
  · exact shade_0 tA tC t m ex ey ez bA bC b nA nC n h4 h5 h7 h6 h8 hf w lt.sl lb.sl ln.sl
/-! ### The row -/
open Go.ChangeShapes Go.WideShapes Go.ChangeAt Go.Joins
theorem own : ownKnob Try.prog.godebug = none := by kernel_rfl
noncomputable def laidWorld (os : Os) : World := World.holding Try.prog os ⟨#[], #[], []⟩
theorem laidWorld_met (os : Os) (args : Array Value) : laidMet Try.prog [] ((laidWorld os).forCall (fun _ _ => 0) ⟨#[], args, []⟩).memory :=
  laidMet_of_run' 8 (by kernel_rfl) (by kernel_rfl)

set_option maxRecDepth 100000 in
theorem contract (H : Type) (enc : TypeId × Value → H) (W : World) (base : Nat) (args : Array Value) (ds gs : List (DataW H)) (before : List MemPlace)
    (hval : ∀ (j : Nat) t v, Try.f4.params[j]? = some t → args[j]? = some v → Value.okWide Try.prog W .any base t v)
    (hW : DataW.Whole enc Try.prog Try.f4.params.toList Rows.sunShadeSpec.vars false W args.toList ds gs before) :
    Calls Try.prog 4 args W fun e W' => ∃ v, e = .returned v ∧ Rows.sunShadeSpec.post enc Try.prog Try.f4 false true false false W args v W' := by
  have hW' := hW
  have hold : ∀ q ∈ before, decide (q.block < W.heap.size) = true := fun q hq => by simpa using hW.lt q hq
  obtain ⟨p, q, hA0, hV, rfl, hfz, hnd⟩ := hW
  have hA : DataW.TrodAll enc Try.prog W 0 (fun _ => true) true Try.f4.params.toList args.toList ds p := hA0
  rw [Try.params4] at hA hval
  obtain ⟨v0, vs0, d0, ds0, p0, q0, hargs, rfl, rfl, h0, r0⟩ := trodAll_cons hA
  obtain ⟨v1, vs1, d1, ds1, p1, q1, rfl, rfl, rfl, h1, r1⟩ := trodAll_cons r0
  obtain ⟨v2, vs2, d2, ds2, p2, q2, rfl, rfl, rfl, h2, r2⟩ := trodAll_cons r1
  obtain ⟨v3, vs3, d3, ds3, p3, q3, rfl, rfl, rfl, h3, r3⟩ := trodAll_cons r2
  obtain ⟨v4, vs4, d4, ds4, p4, q4, rfl, rfl, rfl, h4, r4⟩ := trodAll_cons r3
  obtain ⟨rfl, rfl, rfl⟩ := trodAll_nil r4
  obtain rfl : args = #[v0, v1, v2, v3, v4] := Array.toList_inj.1 hargs
  obtain ⟨rfl, rfl⟩ := trodVars_none hV
  obtain ⟨tA, tC, t, rfl, lt, shutt⟩ := open_suns (hval 0 22 v0 rfl rfl) h0
  obtain ⟨m, rfl, rfl, rfl, im⟩ := open_int Try.underlying3 (hval 1 3 v1 rfl rfl) h1
  obtain ⟨ex, ey, ez, rfl, rfl, rfl, iex, iey, iez⟩ := open_vec (hval 2 27 v2 rfl rfl) h2
  obtain ⟨bA, bC, b, rfl, lb, shutb⟩ := open_bodies (hval 3 34 v3 rfl rfl) h3
  obtain ⟨nA, nC, n, rfl, ln, shutn⟩ := open_bodies (hval 4 34 v4 rfl rfl) h4
  clear hA0
  refine (law_any tA tC t m (wf_i im) ex ey ez bA bC b nA nC n W lt lb ln).mono fun e W' ⟨he, bel⟩ => ?_
  subst he
  exact ⟨_, rfl, _, _, _, [], _, [], hW', trodAll_mk1 (shut_bool Try.underlying4 _), (trodAll_cons_mk (shutt W' (fun b => decide (b < W.heap.size)) bel (fun q hq => hold q (by simp [hq]))) (trodAll_cons_mk (shut_int Try.underlying3 im) (trodAll_cons_mk (shut_vec iex iey iez) (trodAll_cons_mk (shutb W' (fun b => decide (b < W.heap.size)) bel (fun q hq => hold q (by simp [hq]))) (trodAll_cons_mk (shutn W' (fun b => decide (b < W.heap.size)) bel (fun q hq => hold q (by simp [hq]))) trodAll_mk0))))), rfl, bel.frame _, fun h => by cases h⟩

theorem reads (os : Os) {H : Type} (enc : TypeId × Value → H) : ∃ places, DataW.whole enc Try.prog ((laidWorld os).forCall (fun _ _ => 0) ⟨#[], #[.slice none 0 0, .int .i64 0, .agg #[.int .i64 0, .int .i64 0, .int .i64 0], .slice none 0 0, .slice none 0 0], []⟩).memory Try.f4.params.toList Rows.sunShadeSpec.vars false (#[.slice none 0 0, .int .i64 0, .agg #[.int .i64 0, .int .i64 0, .int .i64 0], .slice none 0 0, .slice none 0 0] : Array Value).toList 8 = some ([.nil, .lit (.int .i64 0), .agg [.lit (.int .i64 0), .lit (.int .i64 0), .lit (.int .i64 0)], .nil, .nil], [], places) :=
  ⟨[], by kernel_rfl⟩

set_option maxRecDepth 100000 in
theorem lifted (os : Os) (started : os.Started) (H : Type) (enc : TypeId × Value → H) (F : Stop.Interp) :
    ReturnsInHanded {} Try.checked os 4 .any ((OpenSpec.ofChange Rows.sunShadeSpec).preRow enc Try.prog Try.f4 Rows.sunShadeRow.domain false Rows.sunShadeRow.laid) (((OpenSpec.ofChange Rows.sunShadeSpec).at F).post enc Try.prog Try.f4 false true false false) := by
  obtain ⟨places, hx⟩ := reads os enc
  refine returnsInHanded_of_row (C := Try.checked) (s := OpenSpec.ofChange Rows.sunShadeSpec) own started (by kernel_rfl) Try.func4
    (witness_row_atRef (enc := enc) (C := Try.checked) false (laidWorld os) #[.slice none 0 0, .int .i64 0, .agg #[.int .i64 0, .int .i64 0, .int .i64 0], .slice none 0 0, .slice none 0 0] rfl (by kernel_rfl) (by kernel_rfl) (by kernel_rfl)
      (OpenSpec.preRow_of_cond 8 hx (by kernel_rfl) (fun k hk => by cases hk) (by kernel_rfl) (laidWorld_met os _))) ?_
  intro W base args ds gs before hval hW _ hcond _ hL hsh _
  exact contract H enc W base args ds gs before hval hW

/-- The statement. -/
theorem said : Rows.SunShadeSaid :=
  OpenClaim.holds_of_cond 4 Try.f4 rfl rfl rfl rfl rfl rfl rfl ⟨rfl, rfl, rfl, rfl, rfl⟩ rfl rfl rfl rfl rfl (by kernel_rfl) Try.func4 (by kernel_rfl)
    (of_decide_eq_true (by kernel_rfl)) (by unfold Func.isWrapper; first | (rw [if_pos (by decide +kernel)]; kernel_rfl) | (rw [if_neg (by decide +kernel)]; exact ⟨rfl, rfl⟩))
    (fun os started H enc _ F => by rw [OpenClaim.pre_eq_preRow]; exact lifted os started H enc F)
end Go.Proofs.Ytjjimbaogpmbmaa.LawShade
