/-
  SightShares.
-/
import Derived.Test.YtjjimbaogpmbmaaSgtZE
import Derived.Test.YtjjimbaogpmbmaaSgtZD
import Derived.Test.YtjjimbaogpmbmaaSgtZV
import Derived.Test.YtjjimbaogpmbmaaRows
import Derived.ProofKit
import Derived.OpenShut
import Derived.Deep.DeepHandedRow
import Derived.Deep.DeepWitnessRowRef
import Derived.MakeChecks
import Derived.Deep.DeepCutAuto
namespace Go.Proofs.Ytjjimbaogpmbmaa.LawShares
open Go.RowKit Go.Sort
open Go.RowKit (Below)
set_option linter.unusedVariables false
set_option linter.unusedSimpArgs false
attribute [local go_sem] Oper.semAt_some

theorem app_row2 {u : World} {B n m : Nat} {e : TypeId} {v : Value} {L M : List Q4} (h : u.ownsRow B e 4 v n ([] ++ flt q4c L ++ flt q4c M)) : u.ownsRow B e 4 v n (flt q4c (L ++ M)) := by
  rw [List.nil_append, flt_app] at h
  exact h
theorem lin_i {ex ey ez x y z : Int} {L : List Bv} (i j : Int) : (lin ex ey ez x y z L i).b = (lin ex ey ez x y z L j).b := by unfold lin; split <;> rfl
theorem wsum_l {T M : List Q4} : ∀ k, k ≤ T.length → wsum (T ++ M) k = wsum T k
  | 0, _ => rfl
  | k + 1, h => by
    show wsum (T ++ M) k + _ = wsum T k + _
    rw [wsum_l k (by omega), gd4_app_l (by omega)]
theorem wsum_r {T M : List Q4} : ∀ k, k ≤ M.length → wsum (T ++ M) (T.length + k) = wsum T T.length + wsum M k
  | 0, _ => by rw [Nat.add_zero, wsum_l _ (Nat.le_refl _)]; simp [wsum]
  | k + 1, h => by
    show wsum (T ++ M) (T.length + k) + (gd4 (T ++ M) (T.length + k)).d = _ + (wsum M k + _)
    rw [wsum_r k (by omega), gd4_app_r (by omega), show T.length + k - T.length = k by omega]; omega
section
variable {ex ey ez : Int} {T M : List Q4} {L : List Bv}
theorem ssum_l : ∀ k, k ≤ T.length → ssum (T ++ M) (lns ex ey ez (T ++ M) L) k = ssum T (lns ex ey ez T L) k
  | 0, _ => rfl
  | k + 1, h => by
    show ssum (T ++ M) _ k + _ = ssum T _ k + _
    rw [ssum_l k (by omega), gd4_app_l (by omega), lns_at (by rw [List.length_append]; omega), lns_at (by omega), gd4_app_l (by omega)]
theorem ssum_r : ∀ k, k ≤ M.length → ssum (T ++ M) (lns ex ey ez (T ++ M) L) (T.length + k) = ssum T (lns ex ey ez T L) T.length + ssum M (lns ex ey ez M L) k
  | 0, _ => by rw [Nat.add_zero, ssum_l _ (Nat.le_refl _)]; simp [ssum]
  | k + 1, h => by
    show ssum (T ++ M) _ (T.length + k) + (if (gd4 (lns ex ey ez (T ++ M) L) (T.length + k)).b = -1 then (gd4 (T ++ M) (T.length + k)).d else 0) = _ + (ssum M _ k + _)
    rw [ssum_r k (by omega), gd4_app_r (by omega), lns_at (by rw [List.length_append]; omega), lns_at (by omega), gd4_app_r (by omega), show T.length + k - T.length = k by omega, lin_i _ (k : Int)]; omega
theorem tok_app (h : Tok T) (k : Tok M) : Tok (T ++ M) := ⟨by have := h.1; rw [List.length_append]; omega, fun i hi => by
  by_cases hl : i < T.length
  · rw [gd4_app_l hl]; exact h.2 i hl
  · rw [List.length_append] at hi
    rw [gd4_app_r hl]; exact k.2 _ (by omega)⟩
theorem sut_app (h : Sut ex ey ez T) (k : Sut ex ey ez M) : Sut ex ey ez (T ++ M) := ⟨h.1, fun i hi => by
  by_cases hl : i < T.length
  · rw [gd4_app_l hl]; exact h.2 i hl
  · rw [List.length_append] at hi
    rw [gd4_app_r hl]; exact k.2 _ (by omega)⟩
end
/-- A share: reduced, of the sums. -/
structure Fr (p q n d : Int) : Prop where
  q0 : 0 < q
  d0 : 0 < d
  e : n * q = p * d
  v : vld n d = true
theorem sgn_scale {x y x' y' k l : Int} (hk : 0 < k) (hl : 0 < l) (hx : x * k = x' * l) (hy : y * k = y' * l) : sgn x y = sgn x' y' := by
  have e1 : x < y ↔ x' < y' := by rw [← Int.mul_lt_mul_right hk, hx, hy, Int.mul_lt_mul_right hl]
  have e2 : y < x ↔ y' < x' := by rw [← Int.mul_lt_mul_right hk, hx, hy, Int.mul_lt_mul_right hl]
  unfold sgn
  by_cases h1 : x' < y'
  · rw [if_pos (e1.2 h1), if_pos h1]
  · rw [if_neg (fun h => h1 (e1.1 h)), if_neg h1]
    by_cases h2 : y' < x'
    · rw [if_pos (e2.2 h2), if_pos h2]
    · rw [if_neg (fun h => h2 (e2.1 h)), if_neg h2]
theorem fr_sgn {p q n d p' q' n' d' : Int} (h : Fr p q n d) (k : Fr p' q' n' d') : sgn (n * d') (n' * d) = sgn (p * q') (p' * q) :=
  sgn_scale (Int.mul_pos h.q0 k.q0) (Int.mul_pos h.d0 k.d0) (by have := h.e; grind) (by have := k.e; grind)
theorem sgn_sub (x y z : Int) : sgn (x + z) (y + z) = sgn x y := by unfold sgn; congr 1 <;> simp
theorem between {p q n d p' q' n' d' N D : Int} (h : Fr p q n d) (k : Fr p' q' n' d') (u : Fr (p + p') (q + q') N D) : ∃ s, sgn (n * D) (N * d) = s ∧ sgn (N * d') (n' * D) = s ∧ (s ≤ 0 ∨ 0 ≤ s) := by
  refine ⟨sgn (p * q') (p' * q), ?_, ?_, by omega⟩
  · rw [fr_sgn h u, show p * (q + q') = p * q' + p * q by grind, show (p + p') * q = p' * q + p * q by grind, sgn_sub]
  · rw [fr_sgn u k, show (p + p') * q' = p * q' + p' * q' by grind, show p' * (q + q') = p' * q + p' * q' by grind, sgn_sub]
theorem fr_mk {p q : Int} (h0 : 0 < q) (hq : q ≤ 100000000) (hp : 0 ≤ p ∧ p ≤ q) : Fr p q (mkN p q) (mkD p q) := by
  obtain ⟨e1, e2⟩ := mk_pos (n := p) h0 ⟨by omega, by omega⟩ hq
  rw [e1, e2]
  refine ⟨h0, qD_pos h0, ?_, q_vld h0 ⟨by omega, by omega⟩ hq⟩
  have h1 := qN_mul p q
  have h2 := qD_mul p q
  generalize qN p q = a at *
  generalize qD p q = b at *
  generalize gq p q = g at *
  rw [← h1, ← h2]; grind
theorem lines_e (ex ey ez : Int) (A : Option Addr) (C : Nat) (T : List Q4) (B : Option Addr) (D : Nat) (L : List Bv) (h4 : T.length ≤ 9223372036854775807) (h5 : L.length ≤ 9223372036854775807) (E : Int) (hE : Wrg ex ey ez T L E) (hs : Bsm L) (w : World) (hl : S4 w A T) (hm : BdS w B L) :
    Calls Try.prog 27 #[.agg #[.int .i64 ex, .int .i64 ey, .int .i64 ez], .slice A T.length C, .slice B L.length D] w fun e_ w' => ∃ v, e_ = .returned (.tuple #[v, .int .i64 E]) ∧ Below w.heap.size w w' := by
  by_cases h0 : E = 0
  · subst h0
    exact (lines_1 ex ey ez A C T B D L h4 h5 hE w hl hm).mono fun e w' ⟨g, h1, _, h2⟩ => ⟨_, h1, h2⟩
  · exact (lines_0 ex ey ez A C T B D L h4 h5 E hE h0 (fun _ _ => hs) w hl hm).mono fun e w' ⟨h1, h2⟩ => ⟨_, h1, h2⟩
set_option maxRecDepth 100000 in
set_option maxHeartbeats 4000000 in
theorem sha_0 (ex ey ez : Int) (aA : Option Addr) (aC : Nat) (a : List Q4) (tA : Option Addr) (tC : Nat) (t : List Q4) (bA : Option Addr) (bC : Nat) (b : List Bv) (h3 : a.length ≤ 9223372036854775807) (h4 : t.length ≤ 9223372036854775807) (h5 : b.length ≤ 9223372036854775807) (h6 : ∀ k, k < b.length → (gdB b k).xs.length ≤ 9223372036854775807) (hf : ¬ Few a.length b) (w : World) (ha : S4 w aA a) (ht : S4 w tA t) (hm : BdS w bA b) :
    Calls Try.prog 13 #[.agg #[.int .i64 ex, .int .i64 ey, .int .i64 ez], .slice aA a.length aC, .slice tA t.length tC, .slice bA b.length bC] w fun e_ w' => e_ = .returned (.bool true) ∧ Below w.heap.size w w' := by
  have HF := Lib.hid (fun W (h : BdS W bA b) => few9_is aA aC a bA bC b h3 h5 h6 false (by simp [hf]) W h)
  clear hf
  have HA := Lib.hid ha
  clear ha
  have HT := Lib.hid ht
  clear ht
  have HM := Lib.hid hm
  clear hm
  go_enter Try.func13, Try.ntmps13
  go_wp2_with fail
  obtain ⟨w1, hw1⟩ : ∃ V, (w.alloc (.cells #[.int .i64 ex, .int .i64 ey, .int .i64 ez] 27)) = V := ⟨_, rfl⟩
  obtain ⟨hB_, kp⟩ := boxes1 _ _ hw1
  rw [hw1]
  clear hw1
  have HB := Lib.hid hB_
  clear hB_
  have p0 := (cells3 kp).1
  have p1 := (cells3 kp).2.1
  have p2 := (cells3 kp).2.2
  have lp := block_lt p0
  replace HA := Lib.hid (HA.out.below HB.out)
  replace HT := Lib.hid (HT.out.below HB.out)
  replace HM := Lib.hid (HM.out.below HB.out)
  with_reducible refine (head9_any _).mono ?_
  rintro e_ w2 ⟨rfl, hb⟩
  replace HB := Lib.hid (on_below HB.out hb)
  replace HA := Lib.hid (HA.out.below hb)
  replace HT := Lib.hid (HT.out.below hb)
  replace HM := Lib.hid (HM.out.below hb)
  replace p0 := keepc hb p0
  replace p1 := keepc hb p1
  replace p2 := keepc hb p2
  replace kp := blk_on kp hb
  replace lp := Nat.lt_of_lt_of_le lp hb.size
  clear hb
  go_wp2_with fail
  with_reducible refine (HF.out _ HM.out).mono ?_
  rintro e_ w3 ⟨rfl, hb⟩
  replace HB := Lib.hid (on_below HB.out hb)
  replace HA := Lib.hid (HA.out.below hb)
  replace HT := Lib.hid (HT.out.below hb)
  replace HM := Lib.hid (HM.out.below hb)
  replace p0 := keepc hb p0
  replace p1 := keepc hb p1
  replace p2 := keepc hb p2
  replace kp := blk_on kp hb
  replace lp := Nat.lt_of_lt_of_le lp hb.size
  clear hb
  go_wp2_with fail
  go_ret
  exact ⟨rfl, HB.out⟩
set_option maxRecDepth 100000 in
set_option maxHeartbeats 4000000 in
theorem sha_1 (ex ey ez : Int) (aA : Option Addr) (aC : Nat) (a : List Q4) (tA : Option Addr) (tC : Nat) (t : List Q4) (bA : Option Addr) (bC : Nat) (b : List Bv) (h3 : a.length ≤ 9223372036854775807) (h4 : t.length ≤ 9223372036854775807) (h5 : b.length ≤ 9223372036854775807) (h6 : ∀ k, k < b.length → (gdB b k).xs.length ≤ 9223372036854775807) (hf : Few a.length b) (hg : ¬ Few t.length []) (w : World) (ha : S4 w aA a) (ht : S4 w tA t) (hm : BdS w bA b) :
    Calls Try.prog 13 #[.agg #[.int .i64 ex, .int .i64 ey, .int .i64 ez], .slice aA a.length aC, .slice tA t.length tC, .slice bA b.length bC] w fun e_ w' => e_ = .returned (.bool true) ∧ Below w.heap.size w w' := by
  have HF := Lib.hid (fun W (h : BdS W bA b) => few9_is aA aC a bA bC b h3 h5 h6 true (by simp [hf]) W h)
  have HG := Lib.hid (fun W => few9_is tA tC t none 0 [] h4 (by simp) (fun k hk => absurd hk (Nat.not_lt_zero k)) false (by simp [hg]) W (BdS.nil W none))
  simp only [List.length_nil] at HG
  clear hf hg
  have HA := Lib.hid ha
  clear ha
  have HT := Lib.hid ht
  clear ht
  have HM := Lib.hid hm
  clear hm
  go_enter Try.func13, Try.ntmps13
  go_wp2_with fail
  obtain ⟨w1, hw1⟩ : ∃ V, (w.alloc (.cells #[.int .i64 ex, .int .i64 ey, .int .i64 ez] 27)) = V := ⟨_, rfl⟩
  obtain ⟨hB_, kp⟩ := boxes1 _ _ hw1
  rw [hw1]
  clear hw1
  have HB := Lib.hid hB_
  clear hB_
  have p0 := (cells3 kp).1
  have p1 := (cells3 kp).2.1
  have p2 := (cells3 kp).2.2
  have lp := block_lt p0
  replace HA := Lib.hid (HA.out.below HB.out)
  replace HT := Lib.hid (HT.out.below HB.out)
  replace HM := Lib.hid (HM.out.below HB.out)
  with_reducible refine (head9_any _).mono ?_
  rintro e_ w2 ⟨rfl, hb⟩
  replace HB := Lib.hid (on_below HB.out hb)
  replace HA := Lib.hid (HA.out.below hb)
  replace HT := Lib.hid (HT.out.below hb)
  replace HM := Lib.hid (HM.out.below hb)
  replace p0 := keepc hb p0
  replace p1 := keepc hb p1
  replace p2 := keepc hb p2
  replace kp := blk_on kp hb
  replace lp := Nat.lt_of_lt_of_le lp hb.size
  clear hb
  go_wp2_with fail
  with_reducible refine (HF.out _ HM.out).mono ?_
  rintro e_ w3 ⟨rfl, hb⟩
  replace HB := Lib.hid (on_below HB.out hb)
  replace HA := Lib.hid (HA.out.below hb)
  replace HT := Lib.hid (HT.out.below hb)
  replace HM := Lib.hid (HM.out.below hb)
  replace p0 := keepc hb p0
  replace p1 := keepc hb p1
  replace p2 := keepc hb p2
  replace kp := blk_on kp hb
  replace lp := Nat.lt_of_lt_of_le lp hb.size
  clear hb
  go_wp2_with fail
  with_reducible refine (HG.out _).mono ?_
  rintro e_ w4 ⟨rfl, hb⟩
  replace HB := Lib.hid (on_below HB.out hb)
  replace HA := Lib.hid (HA.out.below hb)
  replace HT := Lib.hid (HT.out.below hb)
  replace HM := Lib.hid (HM.out.below hb)
  replace p0 := keepc hb p0
  replace p1 := keepc hb p1
  replace p2 := keepc hb p2
  replace kp := blk_on kp hb
  replace lp := Nat.lt_of_lt_of_le lp hb.size
  clear hb
  go_wp2_with fail
  go_ret
  exact ⟨rfl, HB.out⟩
set_option maxRecDepth 100000 in
set_option maxHeartbeats 4000000 in
theorem sha_2 (ex ey ez : Int) (aA : Option Addr) (aC : Nat) (a : List Q4) (tA : Option Addr) (tC : Nat) (t : List Q4) (bA : Option Addr) (bC : Nat) (b : List Bv) (h3 : a.length ≤ 9223372036854775807) (h4 : t.length ≤ 9223372036854775807) (h5 : b.length ≤ 9223372036854775807) (h6 : ∀ k, k < b.length → (gdB b k).xs.length ≤ 9223372036854775807) (hf : Few a.length b) (hg : Few t.length []) (h0 : 6 < a.length) (w : World) (ha : S4 w aA a) (ht : S4 w tA t) (hm : BdS w bA b) :
    Calls Try.prog 13 #[.agg #[.int .i64 ex, .int .i64 ey, .int .i64 ez], .slice aA a.length aC, .slice tA t.length tC, .slice bA b.length bC] w fun e_ w' => e_ = .returned (.bool true) ∧ Below w.heap.size w w' := by
  have HF := Lib.hid (fun W (h : BdS W bA b) => few9_is aA aC a bA bC b h3 h5 h6 true (by simp [hf]) W h)
  have HG := Lib.hid (fun W => few9_is tA tC t none 0 [] h4 (by simp) (fun k hk => absurd hk (Nat.not_lt_zero k)) true (by simp [hg]) W (BdS.nil W none))
  simp only [List.length_nil] at HG
  clear hf hg
  have HA := Lib.hid ha
  clear ha
  have HT := Lib.hid ht
  clear ht
  have HM := Lib.hid hm
  clear hm
  go_enter Try.func13, Try.ntmps13
  go_wp2_with fail
  obtain ⟨w1, hw1⟩ : ∃ V, (w.alloc (.cells #[.int .i64 ex, .int .i64 ey, .int .i64 ez] 27)) = V := ⟨_, rfl⟩
  obtain ⟨hB_, kp⟩ := boxes1 _ _ hw1
  rw [hw1]
  clear hw1
  have HB := Lib.hid hB_
  clear hB_
  have p0 := (cells3 kp).1
  have p1 := (cells3 kp).2.1
  have p2 := (cells3 kp).2.2
  have lp := block_lt p0
  replace HA := Lib.hid (HA.out.below HB.out)
  replace HT := Lib.hid (HT.out.below HB.out)
  replace HM := Lib.hid (HM.out.below HB.out)
  with_reducible refine (head9_any _).mono ?_
  rintro e_ w2 ⟨rfl, hb⟩
  replace HB := Lib.hid (on_below HB.out hb)
  replace HA := Lib.hid (HA.out.below hb)
  replace HT := Lib.hid (HT.out.below hb)
  replace HM := Lib.hid (HM.out.below hb)
  replace p0 := keepc hb p0
  replace p1 := keepc hb p1
  replace p2 := keepc hb p2
  replace kp := blk_on kp hb
  replace lp := Nat.lt_of_lt_of_le lp hb.size
  clear hb
  go_wp2_with fail
  with_reducible refine (HF.out _ HM.out).mono ?_
  rintro e_ w3 ⟨rfl, hb⟩
  replace HB := Lib.hid (on_below HB.out hb)
  replace HA := Lib.hid (HA.out.below hb)
  replace HT := Lib.hid (HT.out.below hb)
  replace HM := Lib.hid (HM.out.below hb)
  replace p0 := keepc hb p0
  replace p1 := keepc hb p1
  replace p2 := keepc hb p2
  replace kp := blk_on kp hb
  replace lp := Nat.lt_of_lt_of_le lp hb.size
  clear hb
  go_wp2_with fail
  with_reducible refine (HG.out _).mono ?_
  rintro e_ w4 ⟨rfl, hb⟩
  replace HB := Lib.hid (on_below HB.out hb)
  replace HA := Lib.hid (HA.out.below hb)
  replace HT := Lib.hid (HT.out.below hb)
  replace HM := Lib.hid (HM.out.below hb)
  replace p0 := keepc hb p0
  replace p1 := keepc hb p1
  replace p2 := keepc hb p2
  replace kp := blk_on kp hb
  replace lp := Nat.lt_of_lt_of_le lp hb.size
  clear hb
  go_wp2_with fail
  go_ret
  exact ⟨rfl, HB.out⟩
set_option maxRecDepth 100000 in
set_option maxHeartbeats 4000000 in
theorem sha_3 (ex ey ez : Int) (aA : Option Addr) (aC : Nat) (a : List Q4) (tA : Option Addr) (tC : Nat) (t : List Q4) (bA : Option Addr) (bC : Nat) (b : List Bv) (h3 : a.length ≤ 9223372036854775807) (h4 : t.length ≤ 9223372036854775807) (h5 : b.length ≤ 9223372036854775807) (h6 : ∀ k, k < b.length → (gdB b k).xs.length ≤ 9223372036854775807) (hf : Few a.length b) (hg : Few t.length []) (h0 : a.length ≤ 6) (h1 : 6 < t.length) (w : World) (ha : S4 w aA a) (ht : S4 w tA t) (hm : BdS w bA b) :
    Calls Try.prog 13 #[.agg #[.int .i64 ex, .int .i64 ey, .int .i64 ez], .slice aA a.length aC, .slice tA t.length tC, .slice bA b.length bC] w fun e_ w' => e_ = .returned (.bool true) ∧ Below w.heap.size w w' := by
  have HF := Lib.hid (fun W (h : BdS W bA b) => few9_is aA aC a bA bC b h3 h5 h6 true (by simp [hf]) W h)
  have HG := Lib.hid (fun W => few9_is tA tC t none 0 [] h4 (by simp) (fun k hk => absurd hk (Nat.not_lt_zero k)) true (by simp [hg]) W (BdS.nil W none))
  simp only [List.length_nil] at HG
  clear hf hg
  have HA := Lib.hid ha
  clear ha
  have HT := Lib.hid ht
  clear ht
  have HM := Lib.hid hm
  clear hm
  go_enter Try.func13, Try.ntmps13
  go_wp2_with fail
  obtain ⟨w1, hw1⟩ : ∃ V, (w.alloc (.cells #[.int .i64 ex, .int .i64 ey, .int .i64 ez] 27)) = V := ⟨_, rfl⟩
  obtain ⟨hB_, kp⟩ := boxes1 _ _ hw1
  rw [hw1]
  clear hw1
  have HB := Lib.hid hB_
  clear hB_
  have p0 := (cells3 kp).1
  have p1 := (cells3 kp).2.1
  have p2 := (cells3 kp).2.2
  have lp := block_lt p0
  replace HA := Lib.hid (HA.out.below HB.out)
  replace HT := Lib.hid (HT.out.below HB.out)
  replace HM := Lib.hid (HM.out.below HB.out)
  with_reducible refine (head9_any _).mono ?_
  rintro e_ w2 ⟨rfl, hb⟩
  replace HB := Lib.hid (on_below HB.out hb)
  replace HA := Lib.hid (HA.out.below hb)
  replace HT := Lib.hid (HT.out.below hb)
  replace HM := Lib.hid (HM.out.below hb)
  replace p0 := keepc hb p0
  replace p1 := keepc hb p1
  replace p2 := keepc hb p2
  replace kp := blk_on kp hb
  replace lp := Nat.lt_of_lt_of_le lp hb.size
  clear hb
  go_wp2_with fail
  with_reducible refine (HF.out _ HM.out).mono ?_
  rintro e_ w3 ⟨rfl, hb⟩
  replace HB := Lib.hid (on_below HB.out hb)
  replace HA := Lib.hid (HA.out.below hb)
  replace HT := Lib.hid (HT.out.below hb)
  replace HM := Lib.hid (HM.out.below hb)
  replace p0 := keepc hb p0
  replace p1 := keepc hb p1
  replace p2 := keepc hb p2
  replace kp := blk_on kp hb
  replace lp := Nat.lt_of_lt_of_le lp hb.size
  clear hb
  go_wp2_with fail
  with_reducible refine (HG.out _).mono ?_
  rintro e_ w4 ⟨rfl, hb⟩
  replace HB := Lib.hid (on_below HB.out hb)
  replace HA := Lib.hid (HA.out.below hb)
  replace HT := Lib.hid (HT.out.below hb)
  replace HM := Lib.hid (HM.out.below hb)
  replace p0 := keepc hb p0
  replace p1 := keepc hb p1
  replace p2 := keepc hb p2
  replace kp := blk_on kp hb
  replace lp := Nat.lt_of_lt_of_le lp hb.size
  clear hb
  go_wp2_with fail
  go_ret
  exact ⟨rfl, HB.out⟩
set_option maxRecDepth 100000 in
set_option maxHeartbeats 4000000 in
theorem sha_4 (ex ey ez : Int) (aA : Option Addr) (aC : Nat) (a : List Q4) (tA : Option Addr) (tC : Nat) (t : List Q4) (bA : Option Addr) (bC : Nat) (b : List Bv) (h3 : a.length ≤ 9223372036854775807) (h4 : t.length ≤ 9223372036854775807) (h5 : b.length ≤ 9223372036854775807) (h6 : ∀ k, k < b.length → (gdB b k).xs.length ≤ 9223372036854775807) (hf : Few a.length b) (hg : Few t.length []) (h0 : a.length ≤ 6) (h1 : t.length ≤ 6) (E G I : Int) (hE : Wrg ex ey ez a b E) (hG : Wrg ex ey ez t b G) (hI : Wrg ex ey ez (a ++ t) b I) (hz : E ≠ 0) (w : World) (ha : S4 w aA a) (ht : S4 w tA t) (hm : BdS w bA b) :
    Calls Try.prog 13 #[.agg #[.int .i64 ex, .int .i64 ey, .int .i64 ez], .slice aA a.length aC, .slice tA t.length tC, .slice bA b.length bC] w fun e_ w' => e_ = .returned (.bool true) ∧ Below w.heap.size w w' := by
  have HF := Lib.hid (fun W (h : BdS W bA b) => few9_is aA aC a bA bC b h3 h5 h6 true (by simp [hf]) W h)
  have HG := Lib.hid (fun W => few9_is tA tC t none 0 [] h4 (by simp) (fun k hk => absurd hk (Nat.not_lt_zero k)) true (by simp [hg]) W (BdS.nil W none))
  simp only [List.length_nil] at HG
  have C1 := Lib.hid (fun W (x : S4 W aA a) (c : BdS W bA b) => lines_e ex ey ez aA aC a bA bC b h3 h5 E hE (few_bsm hf) W x c)
  have C2 := Lib.hid (fun W (x : S4 W tA t) (c : BdS W bA b) => lines_e ex ey ez tA tC t bA bC b h4 h5 G hG (few_bsm hf) W x c)
  have C3 := Lib.hid (fun mA mC W (x : S4 W mA (a ++ t)) (c : BdS W bA b) => lines_e ex ey ez mA mC (a ++ t) bA bC b (by rw [List.length_append]; omega) h5 I hI (few_bsm hf) W x c)
  simp only [List.length_append] at C3
  have z0 : (E != 0) = true := by simp [hz]
  obtain ⟨i0, hi0, hz0, hz1, hz2⟩ := info_of (show (Try.prog.info? 74).map (fun i => (i.zero, i.size, i.bytes)) = some (some (.agg #[.int .i64 0, .int .i64 0, .int .i64 0, .int .i64 0]), 4, 32) by kernel_rfl)
  clear hf hg hE hG hI hz h3 h4 h5 h6
  have HA := Lib.hid ha
  clear ha
  have HT := Lib.hid ht
  clear ht
  have HM := Lib.hid hm
  clear hm
  go_enter Try.func13, Try.ntmps13
  go_wp2_with fail
  obtain ⟨w1, hw1⟩ : ∃ V, (w.alloc (.cells #[.int .i64 ex, .int .i64 ey, .int .i64 ez] 27)) = V := ⟨_, rfl⟩
  obtain ⟨hB_, kp⟩ := boxes1 _ _ hw1
  rw [hw1]
  clear hw1
  have HB := Lib.hid hB_
  clear hB_
  have p0 := (cells3 kp).1
  have p1 := (cells3 kp).2.1
  have p2 := (cells3 kp).2.2
  have lp := block_lt p0
  replace HA := Lib.hid (HA.out.below HB.out)
  replace HT := Lib.hid (HT.out.below HB.out)
  replace HM := Lib.hid (HM.out.below HB.out)
  with_reducible refine (head9_any _).mono ?_
  rintro e_ w2 ⟨rfl, hb⟩
  replace HB := Lib.hid (on_below HB.out hb)
  replace HA := Lib.hid (HA.out.below hb)
  replace HT := Lib.hid (HT.out.below hb)
  replace HM := Lib.hid (HM.out.below hb)
  replace p0 := keepc hb p0
  replace p1 := keepc hb p1
  replace p2 := keepc hb p2
  replace kp := blk_on kp hb
  replace lp := Nat.lt_of_lt_of_le lp hb.size
  clear hb
  go_wp2_with fail
  with_reducible refine (HF.out _ HM.out).mono ?_
  rintro e_ w3 ⟨rfl, hb⟩
  replace HB := Lib.hid (on_below HB.out hb)
  replace HA := Lib.hid (HA.out.below hb)
  replace HT := Lib.hid (HT.out.below hb)
  replace HM := Lib.hid (HM.out.below hb)
  replace p0 := keepc hb p0
  replace p1 := keepc hb p1
  replace p2 := keepc hb p2
  replace kp := blk_on kp hb
  replace lp := Nat.lt_of_lt_of_le lp hb.size
  clear hb
  go_wp2_with fail
  with_reducible refine (HG.out _).mono ?_
  rintro e_ w4 ⟨rfl, hb⟩
  replace HB := Lib.hid (on_below HB.out hb)
  replace HA := Lib.hid (HA.out.below hb)
  replace HT := Lib.hid (HT.out.below hb)
  replace HM := Lib.hid (HM.out.below hb)
  replace p0 := keepc hb p0
  replace p1 := keepc hb p1
  replace p2 := keepc hb p2
  replace kp := blk_on kp hb
  replace lp := Nat.lt_of_lt_of_le lp hb.size
  clear hb
  have hb0 : Below w4.heap.size w4 (w4.alloc (.cells #[] 74)) := below_new _ _
  have own0 := own_lit w4 w4.heap.size 74 4 (Nat.le_refl _)
  go_wp2_with (first
    | (at_builtin; refine wpList_app _ rfl (.tmp 48) (.tmp 49) 57 rfl w4.heap.size 74 i0 _ 4 32 Try.underlying57 hi0 hz0 hz1 hz2 rfl (by omega) _ 0 [] rfl own0 aA a.length aC (flt q4c a) rfl (flt_len q4c_len a) (s4_src (HA.out.below hb0)) (flt_one q4c_one a) (by unfold maxLen; omega) (by omega) hb0.size ?_; intro v1 u1 own1 gr1; have hb1 := app_below hb0 hb0.size own0 (Nat.le_refl _) gr1; clear gr1)
    | (at_builtin; refine wpList_app _ rfl (.tmp 50) (.tmp 51) 57 rfl w4.heap.size 74 i0 _ 4 32 Try.underlying57 hi0 hz0 hz1 hz2 rfl (by omega) _ (0 + a.length) ([] ++ flt q4c a) rfl own1 tA t.length tC (flt q4c t) rfl (flt_len q4c_len t) (s4_src (HT.out.below hb1)) (flt_one q4c_one t) (by unfold maxLen; omega) (by omega) hb1.size ?_; intro v2 u2 own2 gr2; have hb2 := app_below hb1 hb1.size own1 (Nat.le_refl _) gr2; replace p0 := keepc hb2 p0; replace p1 := keepc hb2 p1; replace p2 := keepc hb2 p2; clear gr2))
  have hb := hb2
  clear hb2 hb1 hb0 own0
  have own3 := app_row2 (m := 0) own2
  clear own2 own1
  obtain ⟨mA, mC, rfl, _, _, _, hms⟩ := own_s4 own3
  have HS := Lib.hid hms
  clear own3 hms
  replace HB := Lib.hid (on_below HB.out hb)
  replace HA := Lib.hid (HA.out.below hb)
  replace HT := Lib.hid (HT.out.below hb)
  replace HM := Lib.hid (HM.out.below hb)
  clear hb
  have lp := block_lt p0
  go_wp2_with fail
  with_reducible refine (C1.out _ HA.out HM.out).mono ?_
  rintro e_ w5 ⟨y1, rfl, hb⟩
  replace HB := Lib.hid (on_below HB.out hb)
  replace HA := Lib.hid (HA.out.below hb)
  replace HT := Lib.hid (HT.out.below hb)
  replace HM := Lib.hid (HM.out.below hb)
  replace HS := Lib.hid (HS.out.below hb)
  replace p0 := keepc hb p0
  replace p1 := keepc hb p1
  replace p2 := keepc hb p2
  replace lp := Nat.lt_of_lt_of_le lp hb.size
  clear hb
  go_wp2_with fail
  with_reducible refine (C2.out _ HT.out HM.out).mono ?_
  rintro e_ w6 ⟨y2, rfl, hb⟩
  replace HB := Lib.hid (on_below HB.out hb)
  replace HA := Lib.hid (HA.out.below hb)
  replace HT := Lib.hid (HT.out.below hb)
  replace HM := Lib.hid (HM.out.below hb)
  replace HS := Lib.hid (HS.out.below hb)
  replace p0 := keepc hb p0
  replace p1 := keepc hb p1
  replace p2 := keepc hb p2
  replace lp := Nat.lt_of_lt_of_le lp hb.size
  clear hb
  go_wp2_with fail
  with_reducible refine (C3.out _ _ _ HS.out HM.out).mono ?_
  rintro e_ w7 ⟨y3, rfl, hb⟩
  replace HB := Lib.hid (on_below HB.out hb)
  replace HA := Lib.hid (HA.out.below hb)
  replace HT := Lib.hid (HT.out.below hb)
  replace HM := Lib.hid (HM.out.below hb)
  replace HS := Lib.hid (HS.out.below hb)
  replace p0 := keepc hb p0
  replace p1 := keepc hb p1
  replace p2 := keepc hb p2
  replace lp := Nat.lt_of_lt_of_le lp hb.size
  clear hb
  go_wp2_with fail
  go_ret
  exact ⟨rfl, HB.out⟩
set_option maxRecDepth 100000 in
set_option maxHeartbeats 4000000 in
theorem sha_5 (ex ey ez : Int) (aA : Option Addr) (aC : Nat) (a : List Q4) (tA : Option Addr) (tC : Nat) (t : List Q4) (bA : Option Addr) (bC : Nat) (b : List Bv) (h3 : a.length ≤ 9223372036854775807) (h4 : t.length ≤ 9223372036854775807) (h5 : b.length ≤ 9223372036854775807) (h6 : ∀ k, k < b.length → (gdB b k).xs.length ≤ 9223372036854775807) (hf : Few a.length b) (hg : Few t.length []) (h0 : a.length ≤ 6) (h1 : t.length ≤ 6) (E G I : Int) (hE : Wrg ex ey ez a b E) (hG : Wrg ex ey ez t b G) (hI : Wrg ex ey ez (a ++ t) b I) (he : E = 0) (hz : G ≠ 0) (w : World) (ha : S4 w aA a) (ht : S4 w tA t) (hm : BdS w bA b) :
    Calls Try.prog 13 #[.agg #[.int .i64 ex, .int .i64 ey, .int .i64 ez], .slice aA a.length aC, .slice tA t.length tC, .slice bA b.length bC] w fun e_ w' => e_ = .returned (.bool true) ∧ Below w.heap.size w w' := by
  subst he
  have HF := Lib.hid (fun W (h : BdS W bA b) => few9_is aA aC a bA bC b h3 h5 h6 true (by simp [hf]) W h)
  have HG := Lib.hid (fun W => few9_is tA tC t none 0 [] h4 (by simp) (fun k hk => absurd hk (Nat.not_lt_zero k)) true (by simp [hg]) W (BdS.nil W none))
  simp only [List.length_nil] at HG
  have C1 := Lib.hid (fun W (x : S4 W aA a) (c : BdS W bA b) => lines_e ex ey ez aA aC a bA bC b h3 h5 0 hE (few_bsm hf) W x c)
  have C2 := Lib.hid (fun W (x : S4 W tA t) (c : BdS W bA b) => lines_e ex ey ez tA tC t bA bC b h4 h5 G hG (few_bsm hf) W x c)
  have C3 := Lib.hid (fun mA mC W (x : S4 W mA (a ++ t)) (c : BdS W bA b) => lines_e ex ey ez mA mC (a ++ t) bA bC b (by rw [List.length_append]; omega) h5 I hI (few_bsm hf) W x c)
  simp only [List.length_append] at C3
  have z0 : (G != 0) = true := by simp [hz]
  obtain ⟨i0, hi0, hz0, hz1, hz2⟩ := info_of (show (Try.prog.info? 74).map (fun i => (i.zero, i.size, i.bytes)) = some (some (.agg #[.int .i64 0, .int .i64 0, .int .i64 0, .int .i64 0]), 4, 32) by kernel_rfl)
  clear hf hg hE hG hI hz h3 h4 h5 h6
  have HA := Lib.hid ha
  clear ha
  have HT := Lib.hid ht
  clear ht
  have HM := Lib.hid hm
  clear hm
  go_enter Try.func13, Try.ntmps13
  go_wp2_with fail
  obtain ⟨w1, hw1⟩ : ∃ V, (w.alloc (.cells #[.int .i64 ex, .int .i64 ey, .int .i64 ez] 27)) = V := ⟨_, rfl⟩
  obtain ⟨hB_, kp⟩ := boxes1 _ _ hw1
  rw [hw1]
  clear hw1
  have HB := Lib.hid hB_
  clear hB_
  have p0 := (cells3 kp).1
  have p1 := (cells3 kp).2.1
  have p2 := (cells3 kp).2.2
  have lp := block_lt p0
  replace HA := Lib.hid (HA.out.below HB.out)
  replace HT := Lib.hid (HT.out.below HB.out)
  replace HM := Lib.hid (HM.out.below HB.out)
  with_reducible refine (head9_any _).mono ?_
  rintro e_ w2 ⟨rfl, hb⟩
  replace HB := Lib.hid (on_below HB.out hb)
  replace HA := Lib.hid (HA.out.below hb)
  replace HT := Lib.hid (HT.out.below hb)
  replace HM := Lib.hid (HM.out.below hb)
  replace p0 := keepc hb p0
  replace p1 := keepc hb p1
  replace p2 := keepc hb p2
  replace kp := blk_on kp hb
  replace lp := Nat.lt_of_lt_of_le lp hb.size
  clear hb
  go_wp2_with fail
  with_reducible refine (HF.out _ HM.out).mono ?_
  rintro e_ w3 ⟨rfl, hb⟩
  replace HB := Lib.hid (on_below HB.out hb)
  replace HA := Lib.hid (HA.out.below hb)
  replace HT := Lib.hid (HT.out.below hb)
  replace HM := Lib.hid (HM.out.below hb)
  replace p0 := keepc hb p0
  replace p1 := keepc hb p1
  replace p2 := keepc hb p2
  replace kp := blk_on kp hb
  replace lp := Nat.lt_of_lt_of_le lp hb.size
  clear hb
  go_wp2_with fail
  with_reducible refine (HG.out _).mono ?_
  rintro e_ w4 ⟨rfl, hb⟩
  replace HB := Lib.hid (on_below HB.out hb)
  replace HA := Lib.hid (HA.out.below hb)
  replace HT := Lib.hid (HT.out.below hb)
  replace HM := Lib.hid (HM.out.below hb)
  replace p0 := keepc hb p0
  replace p1 := keepc hb p1
  replace p2 := keepc hb p2
  replace kp := blk_on kp hb
  replace lp := Nat.lt_of_lt_of_le lp hb.size
  clear hb
  have hb0 : Below w4.heap.size w4 (w4.alloc (.cells #[] 74)) := below_new _ _
  have own0 := own_lit w4 w4.heap.size 74 4 (Nat.le_refl _)
  go_wp2_with (first
    | (at_builtin; refine wpList_app _ rfl (.tmp 48) (.tmp 49) 57 rfl w4.heap.size 74 i0 _ 4 32 Try.underlying57 hi0 hz0 hz1 hz2 rfl (by omega) _ 0 [] rfl own0 aA a.length aC (flt q4c a) rfl (flt_len q4c_len a) (s4_src (HA.out.below hb0)) (flt_one q4c_one a) (by unfold maxLen; omega) (by omega) hb0.size ?_; intro v1 u1 own1 gr1; have hb1 := app_below hb0 hb0.size own0 (Nat.le_refl _) gr1; clear gr1)
    | (at_builtin; refine wpList_app _ rfl (.tmp 50) (.tmp 51) 57 rfl w4.heap.size 74 i0 _ 4 32 Try.underlying57 hi0 hz0 hz1 hz2 rfl (by omega) _ (0 + a.length) ([] ++ flt q4c a) rfl own1 tA t.length tC (flt q4c t) rfl (flt_len q4c_len t) (s4_src (HT.out.below hb1)) (flt_one q4c_one t) (by unfold maxLen; omega) (by omega) hb1.size ?_; intro v2 u2 own2 gr2; have hb2 := app_below hb1 hb1.size own1 (Nat.le_refl _) gr2; replace p0 := keepc hb2 p0; replace p1 := keepc hb2 p1; replace p2 := keepc hb2 p2; clear gr2))
  have hb := hb2
  clear hb2 hb1 hb0 own0
  have own3 := app_row2 (m := 0) own2
  clear own2 own1
  obtain ⟨mA, mC, rfl, _, _, _, hms⟩ := own_s4 own3
  have HS := Lib.hid hms
  clear own3 hms
  replace HB := Lib.hid (on_below HB.out hb)
  replace HA := Lib.hid (HA.out.below hb)
  replace HT := Lib.hid (HT.out.below hb)
  replace HM := Lib.hid (HM.out.below hb)
  clear hb
  have lp := block_lt p0
  go_wp2_with fail
  with_reducible refine (C1.out _ HA.out HM.out).mono ?_
  rintro e_ w5 ⟨y1, rfl, hb⟩
  replace HB := Lib.hid (on_below HB.out hb)
  replace HA := Lib.hid (HA.out.below hb)
  replace HT := Lib.hid (HT.out.below hb)
  replace HM := Lib.hid (HM.out.below hb)
  replace HS := Lib.hid (HS.out.below hb)
  replace p0 := keepc hb p0
  replace p1 := keepc hb p1
  replace p2 := keepc hb p2
  replace lp := Nat.lt_of_lt_of_le lp hb.size
  clear hb
  go_wp2_with fail
  with_reducible refine (C2.out _ HT.out HM.out).mono ?_
  rintro e_ w6 ⟨y2, rfl, hb⟩
  replace HB := Lib.hid (on_below HB.out hb)
  replace HA := Lib.hid (HA.out.below hb)
  replace HT := Lib.hid (HT.out.below hb)
  replace HM := Lib.hid (HM.out.below hb)
  replace HS := Lib.hid (HS.out.below hb)
  replace p0 := keepc hb p0
  replace p1 := keepc hb p1
  replace p2 := keepc hb p2
  replace lp := Nat.lt_of_lt_of_le lp hb.size
  clear hb
  go_wp2_with fail
  with_reducible refine (C3.out _ _ _ HS.out HM.out).mono ?_
  rintro e_ w7 ⟨y3, rfl, hb⟩
  replace HB := Lib.hid (on_below HB.out hb)
  replace HA := Lib.hid (HA.out.below hb)
  replace HT := Lib.hid (HT.out.below hb)
  replace HM := Lib.hid (HM.out.below hb)
  replace HS := Lib.hid (HS.out.below hb)
  replace p0 := keepc hb p0
  replace p1 := keepc hb p1
  replace p2 := keepc hb p2
  replace lp := Nat.lt_of_lt_of_le lp hb.size
  clear hb
  go_wp2_with fail
  go_ret
  exact ⟨rfl, HB.out⟩
set_option maxRecDepth 100000 in
set_option maxHeartbeats 4000000 in
theorem sha_6 (ex ey ez : Int) (aA : Option Addr) (aC : Nat) (a : List Q4) (tA : Option Addr) (tC : Nat) (t : List Q4) (bA : Option Addr) (bC : Nat) (b : List Bv) (h3 : a.length ≤ 9223372036854775807) (h4 : t.length ≤ 9223372036854775807) (h5 : b.length ≤ 9223372036854775807) (h6 : ∀ k, k < b.length → (gdB b k).xs.length ≤ 9223372036854775807) (hf : Few a.length b) (hg : Few t.length []) (h0 : a.length ≤ 6) (h1 : t.length ≤ 6) (hE : Wrg ex ey ez a b 0) (hG : Wrg ex ey ez t b 0) (hI : Wrg ex ey ez (a ++ t) b 0) (sn sd tn td un ud s_ : Int) (hS : ShR a (lns ex ey ez a b) sn sd 0) (hT : ShR t (lns ex ey ez t b) tn td 0) (hU : ShR (a ++ t) (lns ex ey ez (a ++ t) b) un ud 0) (v1 : vld sn sd = true) (v2 : vld tn td = true) (v3 : vld un ud = true) (g1 : sgn (sn * ud) (un * sd) = s_) (g2 : sgn (un * td) (tn * ud) = s_) (hs : s_ ≤ 0) (w : World) (ha : S4 w aA a) (ht : S4 w tA t) (hm : BdS w bA b) :
    Calls Try.prog 13 #[.agg #[.int .i64 ex, .int .i64 ey, .int .i64 ez], .slice aA a.length aC, .slice tA t.length tC, .slice bA b.length bC] w fun e_ w' => e_ = .returned (.bool true) ∧ Below w.heap.size w w' := by
  have HF := Lib.hid (fun W (h : BdS W bA b) => few9_is aA aC a bA bC b h3 h5 h6 true (by simp [hf]) W h)
  have HG := Lib.hid (fun W => few9_is tA tC t none 0 [] h4 (by simp) (fun k hk => absurd hk (Nat.not_lt_zero k)) true (by simp [hg]) W (BdS.nil W none))
  simp only [List.length_nil] at HG
  have C1 := Lib.hid (fun W (x : S4 W aA a) (c : BdS W bA b) => lines_1 ex ey ez aA aC a bA bC b h3 h5 hE W x c)
  have C2 := Lib.hid (fun W (x : S4 W tA t) (c : BdS W bA b) => lines_1 ex ey ez tA tC t bA bC b h4 h5 hG W x c)
  have C3 := Lib.hid (fun mA mC W (x : S4 W mA (a ++ t)) (c : BdS W bA b) => lines_1 ex ey ez mA mC (a ++ t) bA bC b (by rw [List.length_append]; omega) h5 hI W x c)
  have D1 := Lib.hid (fun g W (x : S4 W aA a) (y : S4 W (some ⟨g, 0, none⟩) (lns ex ey ez a b)) => share_is aA aC a (some ⟨g, 0, none⟩) a.length (lns ex ey ez a b) h3 (by rw [lns_len]; exact h3) sn sd 0 hS W x y)
  have D2 := Lib.hid (fun g W (x : S4 W tA t) (y : S4 W (some ⟨g, 0, none⟩) (lns ex ey ez t b)) => share_is tA tC t (some ⟨g, 0, none⟩) t.length (lns ex ey ez t b) h4 (by rw [lns_len]; exact h4) tn td 0 hT W x y)
  have D3 := Lib.hid (fun mA mC g W (x : S4 W mA (a ++ t)) (y : S4 W (some ⟨g, 0, none⟩) (lns ex ey ez (a ++ t) b)) => share_is mA mC (a ++ t) (some ⟨g, 0, none⟩) (a ++ t).length (lns ex ey ez (a ++ t) b) (by rw [List.length_append]; omega) (by rw [lns_len, List.length_append]; omega) un ud 0 hU W x y)
  rw [lns_len] at D1 D2 D3
  simp only [List.length_append] at C3 D3
  have V1 := Lib.hid (fun W => by have h := refvalid_any sn sd W (vld_i64 v1).1 (vld_i64 v1).2; rw [v1] at h; exact h)
  have V2 := Lib.hid (fun W => by have h := refvalid_any tn td W (vld_i64 v2).1 (vld_i64 v2).2; rw [v2] at h; exact h)
  have V3 := Lib.hid (fun W => by have h := refvalid_any un ud W (vld_i64 v3).1 (vld_i64 v3).2; rw [v3] at h; exact h)
  have K1 := Lib.hid (fun W => by have h := cmp_any sn sd un ud W (vld_i64 v1).1 (vld_i64 v1).2 (vld_i64 v3).1 (vld_i64 v3).2; rw [v1, v3] at h; simp only [cmpR, cmpE, Bool.and_self, if_true] at h; rw [g1] at h; exact h)
  have K2 := Lib.hid (fun W => by have h := cmp_any un ud tn td W (vld_i64 v3).1 (vld_i64 v3).2 (vld_i64 v2).1 (vld_i64 v2).2; rw [v3, v2] at h; simp only [cmpR, cmpE, Bool.and_self, if_true] at h; rw [g2] at h; exact h)
  obtain ⟨i0, hi0, hz0, hz1, hz2⟩ := info_of (show (Try.prog.info? 74).map (fun i => (i.zero, i.size, i.bytes)) = some (some (.agg #[.int .i64 0, .int .i64 0, .int .i64 0, .int .i64 0]), 4, 32) by kernel_rfl)
  clear hf hg hE hG hI hS hT hU v1 v2 v3 g1 g2 h3 h4 h5 h6
  have HA := Lib.hid ha
  clear ha
  have HT := Lib.hid ht
  clear ht
  have HM := Lib.hid hm
  clear hm
  go_enter Try.func13, Try.ntmps13
  go_wp2_with fail
  obtain ⟨w1, hw1⟩ : ∃ V, (w.alloc (.cells #[.int .i64 ex, .int .i64 ey, .int .i64 ez] 27)) = V := ⟨_, rfl⟩
  obtain ⟨hB_, kp⟩ := boxes1 _ _ hw1
  rw [hw1]
  clear hw1
  have HB := Lib.hid hB_
  clear hB_
  have p0 := (cells3 kp).1
  have p1 := (cells3 kp).2.1
  have p2 := (cells3 kp).2.2
  have lp := block_lt p0
  replace HA := Lib.hid (HA.out.below HB.out)
  replace HT := Lib.hid (HT.out.below HB.out)
  replace HM := Lib.hid (HM.out.below HB.out)
  with_reducible refine (head9_any _).mono ?_
  rintro e_ w2 ⟨rfl, hb⟩
  replace HB := Lib.hid (on_below HB.out hb)
  replace HA := Lib.hid (HA.out.below hb)
  replace HT := Lib.hid (HT.out.below hb)
  replace HM := Lib.hid (HM.out.below hb)
  replace p0 := keepc hb p0
  replace p1 := keepc hb p1
  replace p2 := keepc hb p2
  replace kp := blk_on kp hb
  replace lp := Nat.lt_of_lt_of_le lp hb.size
  clear hb
  go_wp2_with fail
  with_reducible refine (HF.out _ HM.out).mono ?_
  rintro e_ w3 ⟨rfl, hb⟩
  replace HB := Lib.hid (on_below HB.out hb)
  replace HA := Lib.hid (HA.out.below hb)
  replace HT := Lib.hid (HT.out.below hb)
  replace HM := Lib.hid (HM.out.below hb)
  replace p0 := keepc hb p0
  replace p1 := keepc hb p1
  replace p2 := keepc hb p2
  replace kp := blk_on kp hb
  replace lp := Nat.lt_of_lt_of_le lp hb.size
  clear hb
  go_wp2_with fail
  with_reducible refine (HG.out _).mono ?_
  rintro e_ w4 ⟨rfl, hb⟩
  replace HB := Lib.hid (on_below HB.out hb)
  replace HA := Lib.hid (HA.out.below hb)
  replace HT := Lib.hid (HT.out.below hb)
  replace HM := Lib.hid (HM.out.below hb)
  replace p0 := keepc hb p0
  replace p1 := keepc hb p1
  replace p2 := keepc hb p2
  replace kp := blk_on kp hb
  replace lp := Nat.lt_of_lt_of_le lp hb.size
  clear hb
  have hb0 : Below w4.heap.size w4 (w4.alloc (.cells #[] 74)) := below_new _ _
  have own0 := own_lit w4 w4.heap.size 74 4 (Nat.le_refl _)
  go_wp2_with (first
    | (at_builtin; refine wpList_app _ rfl (.tmp 48) (.tmp 49) 57 rfl w4.heap.size 74 i0 _ 4 32 Try.underlying57 hi0 hz0 hz1 hz2 rfl (by omega) _ 0 [] rfl own0 aA a.length aC (flt q4c a) rfl (flt_len q4c_len a) (s4_src (HA.out.below hb0)) (flt_one q4c_one a) (by unfold maxLen; omega) (by omega) hb0.size ?_; intro v1 u1 own1 gr1; have hb1 := app_below hb0 hb0.size own0 (Nat.le_refl _) gr1; clear gr1)
    | (at_builtin; refine wpList_app _ rfl (.tmp 50) (.tmp 51) 57 rfl w4.heap.size 74 i0 _ 4 32 Try.underlying57 hi0 hz0 hz1 hz2 rfl (by omega) _ (0 + a.length) ([] ++ flt q4c a) rfl own1 tA t.length tC (flt q4c t) rfl (flt_len q4c_len t) (s4_src (HT.out.below hb1)) (flt_one q4c_one t) (by unfold maxLen; omega) (by omega) hb1.size ?_; intro v2 u2 own2 gr2; have hb2 := app_below hb1 hb1.size own1 (Nat.le_refl _) gr2; replace p0 := keepc hb2 p0; replace p1 := keepc hb2 p1; replace p2 := keepc hb2 p2; clear gr2))
  have hb := hb2
  clear hb2 hb1 hb0 own0
  have own3 := app_row2 (m := 0) own2
  clear own2 own1
  obtain ⟨mA, mC, rfl, _, _, _, hms⟩ := own_s4 own3
  have HS := Lib.hid hms
  clear own3 hms
  replace HB := Lib.hid (on_below HB.out hb)
  replace HA := Lib.hid (HA.out.below hb)
  replace HT := Lib.hid (HT.out.below hb)
  replace HM := Lib.hid (HM.out.below hb)
  clear hb
  have lp := block_lt p0
  go_wp2_with fail
  with_reducible refine (C1.out _ HA.out HM.out).mono ?_
  rintro e_ w5 ⟨g0, rfl, hs0, hb⟩
  replace HB := Lib.hid (on_below HB.out hb)
  replace HA := Lib.hid (HA.out.below hb)
  replace HT := Lib.hid (HT.out.below hb)
  replace HM := Lib.hid (HM.out.below hb)
  replace HS := Lib.hid (HS.out.below hb)
  replace p0 := keepc hb p0
  replace p1 := keepc hb p1
  replace p2 := keepc hb p2
  replace lp := Nat.lt_of_lt_of_le lp hb.size
  clear hb
  have HL0 := Lib.hid hs0
  clear hs0
  go_wp2_with fail
  with_reducible refine (C2.out _ HT.out HM.out).mono ?_
  rintro e_ w6 ⟨g1, rfl, hs1, hb⟩
  replace HB := Lib.hid (on_below HB.out hb)
  replace HA := Lib.hid (HA.out.below hb)
  replace HT := Lib.hid (HT.out.below hb)
  replace HM := Lib.hid (HM.out.below hb)
  replace HS := Lib.hid (HS.out.below hb)
  replace HL0 := Lib.hid (HL0.out.below hb)
  replace p0 := keepc hb p0
  replace p1 := keepc hb p1
  replace p2 := keepc hb p2
  replace lp := Nat.lt_of_lt_of_le lp hb.size
  clear hb
  have HL1 := Lib.hid hs1
  clear hs1
  go_wp2_with fail
  with_reducible refine (C3.out _ _ _ HS.out HM.out).mono ?_
  rintro e_ w7 ⟨g2, rfl, hs2, hb⟩
  replace HB := Lib.hid (on_below HB.out hb)
  replace HA := Lib.hid (HA.out.below hb)
  replace HT := Lib.hid (HT.out.below hb)
  replace HM := Lib.hid (HM.out.below hb)
  replace HS := Lib.hid (HS.out.below hb)
  replace HL0 := Lib.hid (HL0.out.below hb)
  replace HL1 := Lib.hid (HL1.out.below hb)
  replace p0 := keepc hb p0
  replace p1 := keepc hb p1
  replace p2 := keepc hb p2
  replace lp := Nat.lt_of_lt_of_le lp hb.size
  clear hb
  have HL2 := Lib.hid hs2
  clear hs2
  go_wp2_with fail
  with_reducible refine (D1.out _ _ HA.out HL0.out).mono ?_
  rintro e_ w8 ⟨rfl, hb⟩
  replace HB := Lib.hid (on_below HB.out hb)
  replace HA := Lib.hid (HA.out.below hb)
  replace HT := Lib.hid (HT.out.below hb)
  replace HM := Lib.hid (HM.out.below hb)
  replace HS := Lib.hid (HS.out.below hb)
  replace HL0 := Lib.hid (HL0.out.below hb)
  replace HL1 := Lib.hid (HL1.out.below hb)
  replace HL2 := Lib.hid (HL2.out.below hb)
  replace p0 := keepc hb p0
  replace p1 := keepc hb p1
  replace p2 := keepc hb p2
  replace lp := Nat.lt_of_lt_of_le lp hb.size
  clear hb
  go_wp2_with fail
  have s0 : World.cell? (w8.alloc (.cells #[.int .i64 sn, .int .i64 sd] 39)) ⟨w8.heap.size, 0, none⟩ = some (.int .i64 sn) := by simp [go_sem]
  have s1 : World.cell? (w8.alloc (.cells #[.int .i64 sn, .int .i64 sd] 39)) ⟨w8.heap.size, 1, none⟩ = some (.int .i64 sd) := by simp [go_sem]
  have ls : w8.heap.size < (w8.alloc (.cells #[.int .i64 sn, .int .i64 sd] 39)).heap.size := by simp
  have hb : Below w8.heap.size w8 (w8.alloc (.cells #[.int .i64 sn, .int .i64 sd] 39)) := below_new _ _
  generalize w8.alloc (.cells #[.int .i64 sn, .int .i64 sd] 39) = w9 at *
  replace HB := Lib.hid (on_below HB.out hb)
  replace HA := Lib.hid (HA.out.below hb)
  replace HT := Lib.hid (HT.out.below hb)
  replace HM := Lib.hid (HM.out.below hb)
  replace HS := Lib.hid (HS.out.below hb)
  replace HL0 := Lib.hid (HL0.out.below hb)
  replace HL1 := Lib.hid (HL1.out.below hb)
  replace HL2 := Lib.hid (HL2.out.below hb)
  replace p0 := keepc hb p0
  replace p1 := keepc hb p1
  replace p2 := keepc hb p2
  replace lp := Nat.lt_of_lt_of_le lp hb.size
  clear hb
  generalize w8.heap.size = gs at *
  with_reducible refine (D2.out _ _ HT.out HL1.out).mono ?_
  rintro e_ w10 ⟨rfl, hb⟩
  replace HB := Lib.hid (on_below HB.out hb)
  replace HA := Lib.hid (HA.out.below hb)
  replace HT := Lib.hid (HT.out.below hb)
  replace HM := Lib.hid (HM.out.below hb)
  replace HS := Lib.hid (HS.out.below hb)
  replace HL0 := Lib.hid (HL0.out.below hb)
  replace HL1 := Lib.hid (HL1.out.below hb)
  replace HL2 := Lib.hid (HL2.out.below hb)
  replace p0 := keepc hb p0
  replace p1 := keepc hb p1
  replace p2 := keepc hb p2
  replace s0 := keepc hb s0
  replace s1 := keepc hb s1
  replace lp := Nat.lt_of_lt_of_le lp hb.size
  replace ls := Nat.lt_of_lt_of_le ls hb.size
  clear hb
  go_wp2_with fail
  have r0 : World.cell? (w10.alloc (.cells #[.int .i64 tn, .int .i64 td] 39)) ⟨w10.heap.size, 0, none⟩ = some (.int .i64 tn) := by simp [go_sem]
  have r1 : World.cell? (w10.alloc (.cells #[.int .i64 tn, .int .i64 td] 39)) ⟨w10.heap.size, 1, none⟩ = some (.int .i64 td) := by simp [go_sem]
  have lr : w10.heap.size < (w10.alloc (.cells #[.int .i64 tn, .int .i64 td] 39)).heap.size := by simp
  have hb : Below w10.heap.size w10 (w10.alloc (.cells #[.int .i64 tn, .int .i64 td] 39)) := below_new _ _
  generalize w10.alloc (.cells #[.int .i64 tn, .int .i64 td] 39) = w11 at *
  replace HB := Lib.hid (on_below HB.out hb)
  replace HA := Lib.hid (HA.out.below hb)
  replace HT := Lib.hid (HT.out.below hb)
  replace HM := Lib.hid (HM.out.below hb)
  replace HS := Lib.hid (HS.out.below hb)
  replace HL0 := Lib.hid (HL0.out.below hb)
  replace HL1 := Lib.hid (HL1.out.below hb)
  replace HL2 := Lib.hid (HL2.out.below hb)
  replace p0 := keepc hb p0
  replace p1 := keepc hb p1
  replace p2 := keepc hb p2
  replace s0 := keepc hb s0
  replace s1 := keepc hb s1
  replace lp := Nat.lt_of_lt_of_le lp hb.size
  replace ls := Nat.lt_of_lt_of_le ls hb.size
  clear hb
  generalize w10.heap.size = gr at *
  with_reducible refine (D3.out _ _ _ _ HS.out HL2.out).mono ?_
  rintro e_ w12 ⟨rfl, hb⟩
  replace HB := Lib.hid (on_below HB.out hb)
  replace HA := Lib.hid (HA.out.below hb)
  replace HT := Lib.hid (HT.out.below hb)
  replace HM := Lib.hid (HM.out.below hb)
  replace HS := Lib.hid (HS.out.below hb)
  replace HL0 := Lib.hid (HL0.out.below hb)
  replace HL1 := Lib.hid (HL1.out.below hb)
  replace HL2 := Lib.hid (HL2.out.below hb)
  replace p0 := keepc hb p0
  replace p1 := keepc hb p1
  replace p2 := keepc hb p2
  replace s0 := keepc hb s0
  replace s1 := keepc hb s1
  replace r0 := keepc hb r0
  replace r1 := keepc hb r1
  replace lp := Nat.lt_of_lt_of_le lp hb.size
  replace ls := Nat.lt_of_lt_of_le ls hb.size
  replace lr := Nat.lt_of_lt_of_le lr hb.size
  clear hb
  go_wp2_with fail
  have u0 : World.cell? (w12.alloc (.cells #[.int .i64 un, .int .i64 ud] 39)) ⟨w12.heap.size, 0, none⟩ = some (.int .i64 un) := by simp [go_sem]
  have u1 : World.cell? (w12.alloc (.cells #[.int .i64 un, .int .i64 ud] 39)) ⟨w12.heap.size, 1, none⟩ = some (.int .i64 ud) := by simp [go_sem]
  have lu : w12.heap.size < (w12.alloc (.cells #[.int .i64 un, .int .i64 ud] 39)).heap.size := by simp
  have hb : Below w12.heap.size w12 (w12.alloc (.cells #[.int .i64 un, .int .i64 ud] 39)) := below_new _ _
  generalize w12.alloc (.cells #[.int .i64 un, .int .i64 ud] 39) = w13 at *
  replace HB := Lib.hid (on_below HB.out hb)
  replace HA := Lib.hid (HA.out.below hb)
  replace HT := Lib.hid (HT.out.below hb)
  replace HM := Lib.hid (HM.out.below hb)
  replace HS := Lib.hid (HS.out.below hb)
  replace HL0 := Lib.hid (HL0.out.below hb)
  replace HL1 := Lib.hid (HL1.out.below hb)
  replace HL2 := Lib.hid (HL2.out.below hb)
  replace p0 := keepc hb p0
  replace p1 := keepc hb p1
  replace p2 := keepc hb p2
  replace s0 := keepc hb s0
  replace s1 := keepc hb s1
  replace r0 := keepc hb r0
  replace r1 := keepc hb r1
  replace lp := Nat.lt_of_lt_of_le lp hb.size
  replace ls := Nat.lt_of_lt_of_le ls hb.size
  replace lr := Nat.lt_of_lt_of_le lr hb.size
  clear hb
  generalize w12.heap.size = gu at *
  with_reducible refine (V1.out _).mono ?_
  rintro e_ w14 ⟨rfl, hb⟩
  replace HB := Lib.hid (on_below HB.out hb)
  replace HA := Lib.hid (HA.out.below hb)
  replace HT := Lib.hid (HT.out.below hb)
  replace HM := Lib.hid (HM.out.below hb)
  replace HS := Lib.hid (HS.out.below hb)
  replace HL0 := Lib.hid (HL0.out.below hb)
  replace HL1 := Lib.hid (HL1.out.below hb)
  replace HL2 := Lib.hid (HL2.out.below hb)
  replace p0 := keepc hb p0
  replace p1 := keepc hb p1
  replace p2 := keepc hb p2
  replace s0 := keepc hb s0
  replace s1 := keepc hb s1
  replace r0 := keepc hb r0
  replace r1 := keepc hb r1
  replace u0 := keepc hb u0
  replace u1 := keepc hb u1
  replace lp := Nat.lt_of_lt_of_le lp hb.size
  replace ls := Nat.lt_of_lt_of_le ls hb.size
  replace lr := Nat.lt_of_lt_of_le lr hb.size
  replace lu := Nat.lt_of_lt_of_le lu hb.size
  clear hb
  go_wp2_with fail
  with_reducible refine (V2.out _).mono ?_
  rintro e_ w15 ⟨rfl, hb⟩
  replace HB := Lib.hid (on_below HB.out hb)
  replace HA := Lib.hid (HA.out.below hb)
  replace HT := Lib.hid (HT.out.below hb)
  replace HM := Lib.hid (HM.out.below hb)
  replace HS := Lib.hid (HS.out.below hb)
  replace HL0 := Lib.hid (HL0.out.below hb)
  replace HL1 := Lib.hid (HL1.out.below hb)
  replace HL2 := Lib.hid (HL2.out.below hb)
  replace p0 := keepc hb p0
  replace p1 := keepc hb p1
  replace p2 := keepc hb p2
  replace s0 := keepc hb s0
  replace s1 := keepc hb s1
  replace r0 := keepc hb r0
  replace r1 := keepc hb r1
  replace u0 := keepc hb u0
  replace u1 := keepc hb u1
  replace lp := Nat.lt_of_lt_of_le lp hb.size
  replace ls := Nat.lt_of_lt_of_le ls hb.size
  replace lr := Nat.lt_of_lt_of_le lr hb.size
  replace lu := Nat.lt_of_lt_of_le lu hb.size
  clear hb
  go_wp2_with fail
  with_reducible refine (V3.out _).mono ?_
  rintro e_ w16 ⟨rfl, hb⟩
  replace HB := Lib.hid (on_below HB.out hb)
  replace HA := Lib.hid (HA.out.below hb)
  replace HT := Lib.hid (HT.out.below hb)
  replace HM := Lib.hid (HM.out.below hb)
  replace HS := Lib.hid (HS.out.below hb)
  replace HL0 := Lib.hid (HL0.out.below hb)
  replace HL1 := Lib.hid (HL1.out.below hb)
  replace HL2 := Lib.hid (HL2.out.below hb)
  replace p0 := keepc hb p0
  replace p1 := keepc hb p1
  replace p2 := keepc hb p2
  replace s0 := keepc hb s0
  replace s1 := keepc hb s1
  replace r0 := keepc hb r0
  replace r1 := keepc hb r1
  replace u0 := keepc hb u0
  replace u1 := keepc hb u1
  replace lp := Nat.lt_of_lt_of_le lp hb.size
  replace ls := Nat.lt_of_lt_of_le ls hb.size
  replace lr := Nat.lt_of_lt_of_le lr hb.size
  replace lu := Nat.lt_of_lt_of_le lu hb.size
  clear hb
  go_wp2_with fail
  with_reducible refine (K1.out _).mono ?_
  rintro e_ w17 ⟨rfl, hb⟩
  replace HB := Lib.hid (on_below HB.out hb)
  replace HA := Lib.hid (HA.out.below hb)
  replace HT := Lib.hid (HT.out.below hb)
  replace HM := Lib.hid (HM.out.below hb)
  replace HS := Lib.hid (HS.out.below hb)
  replace HL0 := Lib.hid (HL0.out.below hb)
  replace HL1 := Lib.hid (HL1.out.below hb)
  replace HL2 := Lib.hid (HL2.out.below hb)
  replace p0 := keepc hb p0
  replace p1 := keepc hb p1
  replace p2 := keepc hb p2
  replace s0 := keepc hb s0
  replace s1 := keepc hb s1
  replace r0 := keepc hb r0
  replace r1 := keepc hb r1
  replace u0 := keepc hb u0
  replace u1 := keepc hb u1
  replace lp := Nat.lt_of_lt_of_le lp hb.size
  replace ls := Nat.lt_of_lt_of_le ls hb.size
  replace lr := Nat.lt_of_lt_of_le lr hb.size
  replace lu := Nat.lt_of_lt_of_le lu hb.size
  clear hb
  go_wp2_with fail
  with_reducible refine (K2.out _).mono ?_
  rintro e_ w18 ⟨rfl, hb⟩
  replace HB := Lib.hid (on_below HB.out hb)
  replace HA := Lib.hid (HA.out.below hb)
  replace HT := Lib.hid (HT.out.below hb)
  replace HM := Lib.hid (HM.out.below hb)
  replace HS := Lib.hid (HS.out.below hb)
  replace HL0 := Lib.hid (HL0.out.below hb)
  replace HL1 := Lib.hid (HL1.out.below hb)
  replace HL2 := Lib.hid (HL2.out.below hb)
  replace p0 := keepc hb p0
  replace p1 := keepc hb p1
  replace p2 := keepc hb p2
  replace s0 := keepc hb s0
  replace s1 := keepc hb s1
  replace r0 := keepc hb r0
  replace r1 := keepc hb r1
  replace u0 := keepc hb u0
  replace u1 := keepc hb u1
  replace lp := Nat.lt_of_lt_of_le lp hb.size
  replace ls := Nat.lt_of_lt_of_le ls hb.size
  replace lr := Nat.lt_of_lt_of_le lr hb.size
  replace lu := Nat.lt_of_lt_of_le lu hb.size
  clear hb
  go_wp2_with fail
  go_ret
  exact ⟨rfl, HB.out⟩
set_option maxRecDepth 100000 in
set_option maxHeartbeats 4000000 in
theorem sha_7 (ex ey ez : Int) (aA : Option Addr) (aC : Nat) (a : List Q4) (tA : Option Addr) (tC : Nat) (t : List Q4) (bA : Option Addr) (bC : Nat) (b : List Bv) (h3 : a.length ≤ 9223372036854775807) (h4 : t.length ≤ 9223372036854775807) (h5 : b.length ≤ 9223372036854775807) (h6 : ∀ k, k < b.length → (gdB b k).xs.length ≤ 9223372036854775807) (hf : Few a.length b) (hg : Few t.length []) (h0 : a.length ≤ 6) (h1 : t.length ≤ 6) (hE : Wrg ex ey ez a b 0) (hG : Wrg ex ey ez t b 0) (hI : Wrg ex ey ez (a ++ t) b 0) (sn sd tn td un ud s_ : Int) (hS : ShR a (lns ex ey ez a b) sn sd 0) (hT : ShR t (lns ex ey ez t b) tn td 0) (hU : ShR (a ++ t) (lns ex ey ez (a ++ t) b) un ud 0) (v1 : vld sn sd = true) (v2 : vld tn td = true) (v3 : vld un ud = true) (g1 : sgn (sn * ud) (un * sd) = s_) (g2 : sgn (un * td) (tn * ud) = s_) (hs : 0 < s_) (w : World) (ha : S4 w aA a) (ht : S4 w tA t) (hm : BdS w bA b) :
    Calls Try.prog 13 #[.agg #[.int .i64 ex, .int .i64 ey, .int .i64 ez], .slice aA a.length aC, .slice tA t.length tC, .slice bA b.length bC] w fun e_ w' => e_ = .returned (.bool true) ∧ Below w.heap.size w w' := by
  have HF := Lib.hid (fun W (h : BdS W bA b) => few9_is aA aC a bA bC b h3 h5 h6 true (by simp [hf]) W h)
  have HG := Lib.hid (fun W => few9_is tA tC t none 0 [] h4 (by simp) (fun k hk => absurd hk (Nat.not_lt_zero k)) true (by simp [hg]) W (BdS.nil W none))
  simp only [List.length_nil] at HG
  have C1 := Lib.hid (fun W (x : S4 W aA a) (c : BdS W bA b) => lines_1 ex ey ez aA aC a bA bC b h3 h5 hE W x c)
  have C2 := Lib.hid (fun W (x : S4 W tA t) (c : BdS W bA b) => lines_1 ex ey ez tA tC t bA bC b h4 h5 hG W x c)
  have C3 := Lib.hid (fun mA mC W (x : S4 W mA (a ++ t)) (c : BdS W bA b) => lines_1 ex ey ez mA mC (a ++ t) bA bC b (by rw [List.length_append]; omega) h5 hI W x c)
  have D1 := Lib.hid (fun g W (x : S4 W aA a) (y : S4 W (some ⟨g, 0, none⟩) (lns ex ey ez a b)) => share_is aA aC a (some ⟨g, 0, none⟩) a.length (lns ex ey ez a b) h3 (by rw [lns_len]; exact h3) sn sd 0 hS W x y)
  have D2 := Lib.hid (fun g W (x : S4 W tA t) (y : S4 W (some ⟨g, 0, none⟩) (lns ex ey ez t b)) => share_is tA tC t (some ⟨g, 0, none⟩) t.length (lns ex ey ez t b) h4 (by rw [lns_len]; exact h4) tn td 0 hT W x y)
  have D3 := Lib.hid (fun mA mC g W (x : S4 W mA (a ++ t)) (y : S4 W (some ⟨g, 0, none⟩) (lns ex ey ez (a ++ t) b)) => share_is mA mC (a ++ t) (some ⟨g, 0, none⟩) (a ++ t).length (lns ex ey ez (a ++ t) b) (by rw [List.length_append]; omega) (by rw [lns_len, List.length_append]; omega) un ud 0 hU W x y)
  rw [lns_len] at D1 D2 D3
  simp only [List.length_append] at C3 D3
  have V1 := Lib.hid (fun W => by have h := refvalid_any sn sd W (vld_i64 v1).1 (vld_i64 v1).2; rw [v1] at h; exact h)
  have V2 := Lib.hid (fun W => by have h := refvalid_any tn td W (vld_i64 v2).1 (vld_i64 v2).2; rw [v2] at h; exact h)
  have V3 := Lib.hid (fun W => by have h := refvalid_any un ud W (vld_i64 v3).1 (vld_i64 v3).2; rw [v3] at h; exact h)
  have K1 := Lib.hid (fun W => by have h := cmp_any sn sd un ud W (vld_i64 v1).1 (vld_i64 v1).2 (vld_i64 v3).1 (vld_i64 v3).2; rw [v1, v3] at h; simp only [cmpR, cmpE, Bool.and_self, if_true] at h; rw [g1] at h; exact h)
  have K2 := Lib.hid (fun W => by have h := cmp_any un ud tn td W (vld_i64 v3).1 (vld_i64 v3).2 (vld_i64 v2).1 (vld_i64 v2).2; rw [v3, v2] at h; simp only [cmpR, cmpE, Bool.and_self, if_true] at h; rw [g2] at h; exact h)
  obtain ⟨i0, hi0, hz0, hz1, hz2⟩ := info_of (show (Try.prog.info? 74).map (fun i => (i.zero, i.size, i.bytes)) = some (some (.agg #[.int .i64 0, .int .i64 0, .int .i64 0, .int .i64 0]), 4, 32) by kernel_rfl)
  clear hf hg hE hG hI hS hT hU v1 v2 v3 g1 g2 h3 h4 h5 h6
  have HA := Lib.hid ha
  clear ha
  have HT := Lib.hid ht
  clear ht
  have HM := Lib.hid hm
  clear hm
  go_enter Try.func13, Try.ntmps13
  go_wp2_with fail
  obtain ⟨w1, hw1⟩ : ∃ V, (w.alloc (.cells #[.int .i64 ex, .int .i64 ey, .int .i64 ez] 27)) = V := ⟨_, rfl⟩
  obtain ⟨hB_, kp⟩ := boxes1 _ _ hw1
  rw [hw1]
  clear hw1
  have HB := Lib.hid hB_
  clear hB_
  have p0 := (cells3 kp).1
  have p1 := (cells3 kp).2.1
  have p2 := (cells3 kp).2.2
  have lp := block_lt p0
  replace HA := Lib.hid (HA.out.below HB.out)
  replace HT := Lib.hid (HT.out.below HB.out)
  replace HM := Lib.hid (HM.out.below HB.out)
  with_reducible refine (head9_any _).mono ?_
  rintro e_ w2 ⟨rfl, hb⟩
  replace HB := Lib.hid (on_below HB.out hb)
  replace HA := Lib.hid (HA.out.below hb)
  replace HT := Lib.hid (HT.out.below hb)
  replace HM := Lib.hid (HM.out.below hb)
  replace p0 := keepc hb p0
  replace p1 := keepc hb p1
  replace p2 := keepc hb p2
  replace kp := blk_on kp hb
  replace lp := Nat.lt_of_lt_of_le lp hb.size
  clear hb
  go_wp2_with fail
  with_reducible refine (HF.out _ HM.out).mono ?_
  rintro e_ w3 ⟨rfl, hb⟩
  replace HB := Lib.hid (on_below HB.out hb)
  replace HA := Lib.hid (HA.out.below hb)
  replace HT := Lib.hid (HT.out.below hb)
  replace HM := Lib.hid (HM.out.below hb)
  replace p0 := keepc hb p0
  replace p1 := keepc hb p1
  replace p2 := keepc hb p2
  replace kp := blk_on kp hb
  replace lp := Nat.lt_of_lt_of_le lp hb.size
  clear hb
  go_wp2_with fail
  with_reducible refine (HG.out _).mono ?_
  rintro e_ w4 ⟨rfl, hb⟩
  replace HB := Lib.hid (on_below HB.out hb)
  replace HA := Lib.hid (HA.out.below hb)
  replace HT := Lib.hid (HT.out.below hb)
  replace HM := Lib.hid (HM.out.below hb)
  replace p0 := keepc hb p0
  replace p1 := keepc hb p1
  replace p2 := keepc hb p2
  replace kp := blk_on kp hb
  replace lp := Nat.lt_of_lt_of_le lp hb.size
  clear hb
  have hb0 : Below w4.heap.size w4 (w4.alloc (.cells #[] 74)) := below_new _ _
  have own0 := own_lit w4 w4.heap.size 74 4 (Nat.le_refl _)
  go_wp2_with (first
    | (at_builtin; refine wpList_app _ rfl (.tmp 48) (.tmp 49) 57 rfl w4.heap.size 74 i0 _ 4 32 Try.underlying57 hi0 hz0 hz1 hz2 rfl (by omega) _ 0 [] rfl own0 aA a.length aC (flt q4c a) rfl (flt_len q4c_len a) (s4_src (HA.out.below hb0)) (flt_one q4c_one a) (by unfold maxLen; omega) (by omega) hb0.size ?_; intro v1 u1 own1 gr1; have hb1 := app_below hb0 hb0.size own0 (Nat.le_refl _) gr1; clear gr1)
    | (at_builtin; refine wpList_app _ rfl (.tmp 50) (.tmp 51) 57 rfl w4.heap.size 74 i0 _ 4 32 Try.underlying57 hi0 hz0 hz1 hz2 rfl (by omega) _ (0 + a.length) ([] ++ flt q4c a) rfl own1 tA t.length tC (flt q4c t) rfl (flt_len q4c_len t) (s4_src (HT.out.below hb1)) (flt_one q4c_one t) (by unfold maxLen; omega) (by omega) hb1.size ?_; intro v2 u2 own2 gr2; have hb2 := app_below hb1 hb1.size own1 (Nat.le_refl _) gr2; replace p0 := keepc hb2 p0; replace p1 := keepc hb2 p1; replace p2 := keepc hb2 p2; clear gr2))
  have hb := hb2
  clear hb2 hb1 hb0 own0
  have own3 := app_row2 (m := 0) own2
  clear own2 own1
  obtain ⟨mA, mC, rfl, _, _, _, hms⟩ := own_s4 own3
  have HS := Lib.hid hms
  clear own3 hms
  replace HB := Lib.hid (on_below HB.out hb)
  replace HA := Lib.hid (HA.out.below hb)
  replace HT := Lib.hid (HT.out.below hb)
  replace HM := Lib.hid (HM.out.below hb)
  clear hb
  have lp := block_lt p0
  go_wp2_with fail
  with_reducible refine (C1.out _ HA.out HM.out).mono ?_
  rintro e_ w5 ⟨g0, rfl, hs0, hb⟩
  replace HB := Lib.hid (on_below HB.out hb)
  replace HA := Lib.hid (HA.out.below hb)
  replace HT := Lib.hid (HT.out.below hb)
  replace HM := Lib.hid (HM.out.below hb)
  replace HS := Lib.hid (HS.out.below hb)
  replace p0 := keepc hb p0
  replace p1 := keepc hb p1
  replace p2 := keepc hb p2
  replace lp := Nat.lt_of_lt_of_le lp hb.size
  clear hb
  have HL0 := Lib.hid hs0
  clear hs0
  go_wp2_with fail
  with_reducible refine (C2.out _ HT.out HM.out).mono ?_
  rintro e_ w6 ⟨g1, rfl, hs1, hb⟩
  replace HB := Lib.hid (on_below HB.out hb)
  replace HA := Lib.hid (HA.out.below hb)
  replace HT := Lib.hid (HT.out.below hb)
  replace HM := Lib.hid (HM.out.below hb)
  replace HS := Lib.hid (HS.out.below hb)
  replace HL0 := Lib.hid (HL0.out.below hb)
  replace p0 := keepc hb p0
  replace p1 := keepc hb p1
  replace p2 := keepc hb p2
  replace lp := Nat.lt_of_lt_of_le lp hb.size
  clear hb
  have HL1 := Lib.hid hs1
  clear hs1
  go_wp2_with fail
  with_reducible refine (C3.out _ _ _ HS.out HM.out).mono ?_
  rintro e_ w7 ⟨g2, rfl, hs2, hb⟩
  replace HB := Lib.hid (on_below HB.out hb)
  replace HA := Lib.hid (HA.out.below hb)
  replace HT := Lib.hid (HT.out.below hb)
  replace HM := Lib.hid (HM.out.below hb)
  replace HS := Lib.hid (HS.out.below hb)
  replace HL0 := Lib.hid (HL0.out.below hb)
  replace HL1 := Lib.hid (HL1.out.below hb)
  replace p0 := keepc hb p0
  replace p1 := keepc hb p1
  replace p2 := keepc hb p2
  replace lp := Nat.lt_of_lt_of_le lp hb.size
  clear hb
  have HL2 := Lib.hid hs2
  clear hs2
  go_wp2_with fail
  with_reducible refine (D1.out _ _ HA.out HL0.out).mono ?_
  rintro e_ w8 ⟨rfl, hb⟩
  replace HB := Lib.hid (on_below HB.out hb)
  replace HA := Lib.hid (HA.out.below hb)
  replace HT := Lib.hid (HT.out.below hb)
  replace HM := Lib.hid (HM.out.below hb)
  replace HS := Lib.hid (HS.out.below hb)
  replace HL0 := Lib.hid (HL0.out.below hb)
  replace HL1 := Lib.hid (HL1.out.below hb)
  replace HL2 := Lib.hid (HL2.out.below hb)
  replace p0 := keepc hb p0
  replace p1 := keepc hb p1
  replace p2 := keepc hb p2
  replace lp := Nat.lt_of_lt_of_le lp hb.size
  clear hb
  go_wp2_with fail
  have s0 : World.cell? (w8.alloc (.cells #[.int .i64 sn, .int .i64 sd] 39)) ⟨w8.heap.size, 0, none⟩ = some (.int .i64 sn) := by simp [go_sem]
  have s1 : World.cell? (w8.alloc (.cells #[.int .i64 sn, .int .i64 sd] 39)) ⟨w8.heap.size, 1, none⟩ = some (.int .i64 sd) := by simp [go_sem]
  have ls : w8.heap.size < (w8.alloc (.cells #[.int .i64 sn, .int .i64 sd] 39)).heap.size := by simp
  have hb : Below w8.heap.size w8 (w8.alloc (.cells #[.int .i64 sn, .int .i64 sd] 39)) := below_new _ _
  generalize w8.alloc (.cells #[.int .i64 sn, .int .i64 sd] 39) = w9 at *
  replace HB := Lib.hid (on_below HB.out hb)
  replace HA := Lib.hid (HA.out.below hb)
  replace HT := Lib.hid (HT.out.below hb)
  replace HM := Lib.hid (HM.out.below hb)
  replace HS := Lib.hid (HS.out.below hb)
  replace HL0 := Lib.hid (HL0.out.below hb)
  replace HL1 := Lib.hid (HL1.out.below hb)
  replace HL2 := Lib.hid (HL2.out.below hb)
  replace p0 := keepc hb p0
  replace p1 := keepc hb p1
  replace p2 := keepc hb p2
  replace lp := Nat.lt_of_lt_of_le lp hb.size
  clear hb
  generalize w8.heap.size = gs at *
  with_reducible refine (D2.out _ _ HT.out HL1.out).mono ?_
  rintro e_ w10 ⟨rfl, hb⟩
  replace HB := Lib.hid (on_below HB.out hb)
  replace HA := Lib.hid (HA.out.below hb)
  replace HT := Lib.hid (HT.out.below hb)
  replace HM := Lib.hid (HM.out.below hb)
  replace HS := Lib.hid (HS.out.below hb)
  replace HL0 := Lib.hid (HL0.out.below hb)
  replace HL1 := Lib.hid (HL1.out.below hb)
  replace HL2 := Lib.hid (HL2.out.below hb)
  replace p0 := keepc hb p0
  replace p1 := keepc hb p1
  replace p2 := keepc hb p2
  replace s0 := keepc hb s0
  replace s1 := keepc hb s1
  replace lp := Nat.lt_of_lt_of_le lp hb.size
  replace ls := Nat.lt_of_lt_of_le ls hb.size
  clear hb
  go_wp2_with fail
  have r0 : World.cell? (w10.alloc (.cells #[.int .i64 tn, .int .i64 td] 39)) ⟨w10.heap.size, 0, none⟩ = some (.int .i64 tn) := by simp [go_sem]
  have r1 : World.cell? (w10.alloc (.cells #[.int .i64 tn, .int .i64 td] 39)) ⟨w10.heap.size, 1, none⟩ = some (.int .i64 td) := by simp [go_sem]
  have lr : w10.heap.size < (w10.alloc (.cells #[.int .i64 tn, .int .i64 td] 39)).heap.size := by simp
  have hb : Below w10.heap.size w10 (w10.alloc (.cells #[.int .i64 tn, .int .i64 td] 39)) := below_new _ _
  generalize w10.alloc (.cells #[.int .i64 tn, .int .i64 td] 39) = w11 at *
  replace HB := Lib.hid (on_below HB.out hb)
  replace HA := Lib.hid (HA.out.below hb)
  replace HT := Lib.hid (HT.out.below hb)
  replace HM := Lib.hid (HM.out.below hb)
  replace HS := Lib.hid (HS.out.below hb)
  replace HL0 := Lib.hid (HL0.out.below hb)
  replace HL1 := Lib.hid (HL1.out.below hb)
  replace HL2 := Lib.hid (HL2.out.below hb)
  replace p0 := keepc hb p0
  replace p1 := keepc hb p1
  replace p2 := keepc hb p2
  replace s0 := keepc hb s0
  replace s1 := keepc hb s1
  replace lp := Nat.lt_of_lt_of_le lp hb.size
  replace ls := Nat.lt_of_lt_of_le ls hb.size
  clear hb
  generalize w10.heap.size = gr at *
  with_reducible refine (D3.out _ _ _ _ HS.out HL2.out).mono ?_
  rintro e_ w12 ⟨rfl, hb⟩
  replace HB := Lib.hid (on_below HB.out hb)
  replace HA := Lib.hid (HA.out.below hb)
  replace HT := Lib.hid (HT.out.below hb)
  replace HM := Lib.hid (HM.out.below hb)
  replace HS := Lib.hid (HS.out.below hb)
  replace HL0 := Lib.hid (HL0.out.below hb)
  replace HL1 := Lib.hid (HL1.out.below hb)
  replace HL2 := Lib.hid (HL2.out.below hb)
  replace p0 := keepc hb p0
  replace p1 := keepc hb p1
  replace p2 := keepc hb p2
  replace s0 := keepc hb s0
  replace s1 := keepc hb s1
  replace r0 := keepc hb r0
  replace r1 := keepc hb r1
  replace lp := Nat.lt_of_lt_of_le lp hb.size
  replace ls := Nat.lt_of_lt_of_le ls hb.size
  replace lr := Nat.lt_of_lt_of_le lr hb.size
  clear hb
  go_wp2_with fail
  have u0 : World.cell? (w12.alloc (.cells #[.int .i64 un, .int .i64 ud] 39)) ⟨w12.heap.size, 0, none⟩ = some (.int .i64 un) := by simp [go_sem]
  have u1 : World.cell? (w12.alloc (.cells #[.int .i64 un, .int .i64 ud] 39)) ⟨w12.heap.size, 1, none⟩ = some (.int .i64 ud) := by simp [go_sem]
  have lu : w12.heap.size < (w12.alloc (.cells #[.int .i64 un, .int .i64 ud] 39)).heap.size := by simp
  have hb : Below w12.heap.size w12 (w12.alloc (.cells #[.int .i64 un, .int .i64 ud] 39)) := below_new _ _
  generalize w12.alloc (.cells #[.int .i64 un, .int .i64 ud] 39) = w13 at *
  replace HB := Lib.hid (on_below HB.out hb)
  replace HA := Lib.hid (HA.out.below hb)
  replace HT := Lib.hid (HT.out.below hb)
  replace HM := Lib.hid (HM.out.below hb)
  replace HS := Lib.hid (HS.out.below hb)
  replace HL0 := Lib.hid (HL0.out.below hb)
  replace HL1 := Lib.hid (HL1.out.below hb)
  replace HL2 := Lib.hid (HL2.out.below hb)
  replace p0 := keepc hb p0
  replace p1 := keepc hb p1
  replace p2 := keepc hb p2
  replace s0 := keepc hb s0
  replace s1 := keepc hb s1
  replace r0 := keepc hb r0
  replace r1 := keepc hb r1
  replace lp := Nat.lt_of_lt_of_le lp hb.size
  replace ls := Nat.lt_of_lt_of_le ls hb.size
  replace lr := Nat.lt_of_lt_of_le lr hb.size
  clear hb
  generalize w12.heap.size = gu at *
  with_reducible refine (V1.out _).mono ?_
  rintro e_ w14 ⟨rfl, hb⟩
  replace HB := Lib.hid (on_below HB.out hb)
  replace HA := Lib.hid (HA.out.below hb)
  replace HT := Lib.hid (HT.out.below hb)
  replace HM := Lib.hid (HM.out.below hb)
  replace HS := Lib.hid (HS.out.below hb)
  replace HL0 := Lib.hid (HL0.out.below hb)
  replace HL1 := Lib.hid (HL1.out.below hb)
  replace HL2 := Lib.hid (HL2.out.below hb)
  replace p0 := keepc hb p0
  replace p1 := keepc hb p1
  replace p2 := keepc hb p2
  replace s0 := keepc hb s0
  replace s1 := keepc hb s1
  replace r0 := keepc hb r0
  replace r1 := keepc hb r1
  replace u0 := keepc hb u0
  replace u1 := keepc hb u1
  replace lp := Nat.lt_of_lt_of_le lp hb.size
  replace ls := Nat.lt_of_lt_of_le ls hb.size
  replace lr := Nat.lt_of_lt_of_le lr hb.size
  replace lu := Nat.lt_of_lt_of_le lu hb.size
  clear hb
  go_wp2_with fail
  with_reducible refine (V2.out _).mono ?_
  rintro e_ w15 ⟨rfl, hb⟩
  replace HB := Lib.hid (on_below HB.out hb)
  replace HA := Lib.hid (HA.out.below hb)
  replace HT := Lib.hid (HT.out.below hb)
  replace HM := Lib.hid (HM.out.below hb)
  replace HS := Lib.hid (HS.out.below hb)
  replace HL0 := Lib.hid (HL0.out.below hb)
  replace HL1 := Lib.hid (HL1.out.below hb)
  replace HL2 := Lib.hid (HL2.out.below hb)
  replace p0 := keepc hb p0
  replace p1 := keepc hb p1
  replace p2 := keepc hb p2
  replace s0 := keepc hb s0
  replace s1 := keepc hb s1
  replace r0 := keepc hb r0
  replace r1 := keepc hb r1
  replace u0 := keepc hb u0
  replace u1 := keepc hb u1
  replace lp := Nat.lt_of_lt_of_le lp hb.size
  replace ls := Nat.lt_of_lt_of_le ls hb.size
  replace lr := Nat.lt_of_lt_of_le lr hb.size
  replace lu := Nat.lt_of_lt_of_le lu hb.size
  clear hb
  go_wp2_with fail
  with_reducible refine (V3.out _).mono ?_
  rintro e_ w16 ⟨rfl, hb⟩
  replace HB := Lib.hid (on_below HB.out hb)
  replace HA := Lib.hid (HA.out.below hb)
  replace HT := Lib.hid (HT.out.below hb)
  replace HM := Lib.hid (HM.out.below hb)
  replace HS := Lib.hid (HS.out.below hb)
  replace HL0 := Lib.hid (HL0.out.below hb)
  replace HL1 := Lib.hid (HL1.out.below hb)
  replace HL2 := Lib.hid (HL2.out.below hb)
  replace p0 := keepc hb p0
  replace p1 := keepc hb p1
  replace p2 := keepc hb p2
  replace s0 := keepc hb s0
  replace s1 := keepc hb s1
  replace r0 := keepc hb r0
  replace r1 := keepc hb r1
  replace u0 := keepc hb u0
  replace u1 := keepc hb u1
  replace lp := Nat.lt_of_lt_of_le lp hb.size
  replace ls := Nat.lt_of_lt_of_le ls hb.size
  replace lr := Nat.lt_of_lt_of_le lr hb.size
  replace lu := Nat.lt_of_lt_of_le lu hb.size
  clear hb
  go_wp2_with fail
  with_reducible refine (K1.out _).mono ?_
  rintro e_ w17 ⟨rfl, hb⟩
  replace HB := Lib.hid (on_below HB.out hb)
  replace HA := Lib.hid (HA.out.below hb)
  replace HT := Lib.hid (HT.out.below hb)
  replace HM := Lib.hid (HM.out.below hb)
  replace HS := Lib.hid (HS.out.below hb)
  replace HL0 := Lib.hid (HL0.out.below hb)
  replace HL1 := Lib.hid (HL1.out.below hb)
  replace HL2 := Lib.hid (HL2.out.below hb)
  replace p0 := keepc hb p0
  replace p1 := keepc hb p1
  replace p2 := keepc hb p2
  replace s0 := keepc hb s0
  replace s1 := keepc hb s1
  replace r0 := keepc hb r0
  replace r1 := keepc hb r1
  replace u0 := keepc hb u0
  replace u1 := keepc hb u1
  replace lp := Nat.lt_of_lt_of_le lp hb.size
  replace ls := Nat.lt_of_lt_of_le ls hb.size
  replace lr := Nat.lt_of_lt_of_le lr hb.size
  replace lu := Nat.lt_of_lt_of_le lu hb.size
  clear hb
  go_wp2_with fail
  with_reducible refine (K2.out _).mono ?_
  rintro e_ w18 ⟨rfl, hb⟩
  replace HB := Lib.hid (on_below HB.out hb)
  replace HA := Lib.hid (HA.out.below hb)
  replace HT := Lib.hid (HT.out.below hb)
  replace HM := Lib.hid (HM.out.below hb)
  replace HS := Lib.hid (HS.out.below hb)
  replace HL0 := Lib.hid (HL0.out.below hb)
  replace HL1 := Lib.hid (HL1.out.below hb)
  replace HL2 := Lib.hid (HL2.out.below hb)
  replace p0 := keepc hb p0
  replace p1 := keepc hb p1
  replace p2 := keepc hb p2
  replace s0 := keepc hb s0
  replace s1 := keepc hb s1
  replace r0 := keepc hb r0
  replace r1 := keepc hb r1
  replace u0 := keepc hb u0
  replace u1 := keepc hb u1
  replace lp := Nat.lt_of_lt_of_le lp hb.size
  replace ls := Nat.lt_of_lt_of_le ls hb.size
  replace lr := Nat.lt_of_lt_of_le lr hb.size
  replace lu := Nat.lt_of_lt_of_le lu hb.size
  clear hb
  go_wp2_with fail
  go_ret
  exact ⟨rfl, HB.out⟩
theorem fr_of {ex ey ez : Int} {T : List Q4} {b : List Bv} (hl : T.length ≤ 60) (ht : Tok T) : Fr (ssum T (lns ex ey ez T b) T.length) (wsum T T.length) (mkN (ssum T (lns ex ey ez T b) T.length) (wsum T T.length)) (mkD (ssum T (lns ex ey ez T b) T.length) (wsum T T.length)) := by
  obtain ⟨h1, h2, h3, h4⟩ := sum_bd (N := lns ex ey ez T b) ht T.length (Nat.le_refl _)
  have := ht.1
  exact fr_mk (by omega) (by omega) ⟨h1, h2⟩
theorem law_any (ex ey ez : Int) (aA : Option Addr) (aC : Nat) (a : List Q4) (tA : Option Addr) (tC : Nat) (t : List Q4) (bA : Option Addr) (bC : Nat) (b : List Bv) (w : World) (la : L4 w aA aC a) (lt : L4 w tA tC t) (lb : LB w bA bC b) :
    Calls Try.prog 13 #[.agg #[.int .i64 ex, .int .i64 ey, .int .i64 ez], .slice aA a.length aC, .slice tA t.length tC, .slice bA b.length bC] w fun e_ w' => e_ = .returned (.bool true) ∧ Below w.heap.size w w' := by
  have h3 : a.length ≤ 9223372036854775807 := Nat.le_trans la.cap.1 la.cap.2
  have h4 : t.length ≤ 9223372036854775807 := Nat.le_trans lt.cap.1 lt.cap.2
  have h5 : b.length ≤ 9223372036854775807 := Nat.le_trans lb.cap.1 lb.cap.2
  have h6 := lb.len
  by_cases hf : Few a.length b
  · by_cases hg : Few t.length []
    · by_cases h0 : a.length ≤ 6
      · by_cases h1 : t.length ≤ 6
        · obtain ⟨E, hE⟩ := wrg_ex ex ey ez a b
          obtain ⟨G, hG⟩ := wrg_ex ex ey ez t b
          obtain ⟨I, hI⟩ := wrg_ex ex ey ez (a ++ t) b
          by_cases hz : E = 0
          · by_cases hy : G = 0
            · subst hz hy
              obtain ⟨k1, k2, k3⟩ := wrg_zero hE
              obtain ⟨j1, j2, _⟩ := wrg_zero hG
              have hl : (a ++ t).length ≤ 60 := by rw [List.length_append]; omega
              have hb := hf.2.1
              have hU := tok_app k1 j1
              have f1 := fr_of (ex := ex) (ey := ey) (ez := ez) (b := b) (by omega) k1
              have f2 := fr_of (ex := ex) (ey := ey) (ez := ez) (b := b) (by omega) j1
              have f3 := fr_of (ex := ex) (ey := ey) (ez := ez) (b := b) hl hU
              have e1 : ssum (a ++ t) (lns ex ey ez (a ++ t) b) (a ++ t).length = ssum a (lns ex ey ez a b) a.length + ssum t (lns ex ey ez t b) t.length := by rw [List.length_append]; exact ssum_r _ (Nat.le_refl _)
              have e2 : wsum (a ++ t) (a ++ t).length = wsum a a.length + wsum t t.length := by rw [List.length_append]; exact wsum_r _ (Nat.le_refl _)
              obtain ⟨s_, g1, g2, g3⟩ := between f1 f2 (by rw [← e1, ← e2]; exact f3)
              have hw : Wrg ex ey ez (a ++ t) b 0 := Or.inr (Or.inr ⟨hl, by omega, hU, sut_app k2 j2, k3, rfl⟩)
              have w1 : ShR a (lns ex ey ez a b) _ _ 0 := Or.inr (Or.inr ⟨by omega, k1, lns_num _ _ _ _ _, rfl, rfl, rfl⟩)
              have w2 : ShR t (lns ex ey ez t b) _ _ 0 := Or.inr (Or.inr ⟨by omega, j1, lns_num _ _ _ _ _, rfl, rfl, rfl⟩)
              have w3 : ShR (a ++ t) (lns ex ey ez (a ++ t) b) _ _ 0 := Or.inr (Or.inr ⟨hl, hU, lns_num _ _ _ _ _, rfl, rfl, rfl⟩)
              by_cases hs : s_ ≤ 0
              · exact sha_6 ex ey ez aA aC a tA tC t bA bC b h3 h4 h5 h6 hf hg h0 h1 hE hG hw _ _ _ _ _ _ s_ w1 w2 w3 f1.v f2.v f3.v g1 g2 hs w la.sl lt.sl lb.sl
              · exact sha_7 ex ey ez aA aC a tA tC t bA bC b h3 h4 h5 h6 hf hg h0 h1 hE hG hw _ _ _ _ _ _ s_ w1 w2 w3 f1.v f2.v f3.v g1 g2 (by omega) w la.sl lt.sl lb.sl
            · exact sha_5 ex ey ez aA aC a tA tC t bA bC b h3 h4 h5 h6 hf hg h0 h1 E G I hE hG hI hz hy w la.sl lt.sl lb.sl
          · exact sha_4 ex ey ez aA aC a tA tC t bA bC b h3 h4 h5 h6 hf hg h0 h1 E G I hE hG hI hz w la.sl lt.sl lb.sl
        · exact sha_3 ex ey ez aA aC a tA tC t bA bC b h3 h4 h5 h6 hf hg h0 (by omega) w la.sl lt.sl lb.sl
      · exact sha_2 ex ey ez aA aC a tA tC t bA bC b h3 h4 h5 h6 hf hg (by omega) w la.sl lt.sl lb.sl
    · exact sha_1 ex ey ez aA aC a tA tC t bA bC b h3 h4 h5 h6 hf hg w la.sl lt.sl lb.sl
  · exact sha_0 ex ey ez aA aC a tA tC t bA bC b h3 h4 h5 h6 hf w la.sl lt.sl lb.sl
/-! ### The row -/
open Go.ChangeShapes Go.WideShapes Go.ChangeAt Go.Joins
theorem own : ownKnob Try.prog.godebug = none := by kernel_rfl
noncomputable def laidWorld (os : Os) : World := World.holding Try.prog os ⟨#[], #[], []⟩
theorem laidWorld_met (os : Os) (args : Array Value) : laidMet Try.prog [] ((laidWorld os).forCall (fun _ _ => 0) ⟨#[], args, []⟩).memory :=
  laidMet_of_run' 8 (by kernel_rfl) (by kernel_rfl)

set_option maxRecDepth 100000 in
theorem contract (H : Type) (enc : TypeId × Value → H) (W : World) (base : Nat) (args : Array Value) (ds gs : List (DataW H)) (before : List MemPlace)
    (hval : ∀ (j : Nat) t v, Try.f13.params[j]? = some t → args[j]? = some v → Value.okWide Try.prog W .any base t v)
    (hW : DataW.Whole enc Try.prog Try.f13.params.toList Rows.sightSharesSpec.vars false W args.toList ds gs before) :
    Calls Try.prog 13 args W fun e W' => ∃ v, e = .returned v ∧ Rows.sightSharesSpec.post enc Try.prog Try.f13 false true false false W args v W' := by
  have hW' := hW
  have hold : ∀ q ∈ before, decide (q.block < W.heap.size) = true := fun q hq => by simpa using hW.lt q hq
  obtain ⟨p, q, hA0, hV, rfl, hfz, hnd⟩ := hW
  have hA : DataW.TrodAll enc Try.prog W 0 (fun _ => true) true Try.f13.params.toList args.toList ds p := hA0
  rw [Try.params13] at hA hval
  obtain ⟨v0, vs0, d0, ds0, p0, q0, hargs, rfl, rfl, h0, r0⟩ := trodAll_cons hA
  obtain ⟨v1, vs1, d1, ds1, p1, q1, rfl, rfl, rfl, h1, r1⟩ := trodAll_cons r0
  obtain ⟨v2, vs2, d2, ds2, p2, q2, rfl, rfl, rfl, h2, r2⟩ := trodAll_cons r1
  obtain ⟨v3, vs3, d3, ds3, p3, q3, rfl, rfl, rfl, h3, r3⟩ := trodAll_cons r2
  obtain ⟨rfl, rfl, rfl⟩ := trodAll_nil r3
  obtain rfl : args = #[v0, v1, v2, v3] := Array.toList_inj.1 hargs
  obtain ⟨rfl, rfl⟩ := trodVars_none hV
  obtain ⟨ex, ey, ez, rfl, rfl, rfl, iex, iey, iez⟩ := open_vec (hval 0 27 v0 rfl rfl) h0
  obtain ⟨aA, aC, a, rfl, la, shuta⟩ := open_targets (hval 1 57 v1 rfl rfl) h1
  obtain ⟨tA, tC, t, rfl, lt, shutt⟩ := open_targets (hval 2 57 v2 rfl rfl) h2
  obtain ⟨bA, bC, b, rfl, lb, shutb⟩ := open_bodies (hval 3 34 v3 rfl rfl) h3
  clear hA0
  refine (law_any ex ey ez aA aC a tA tC t bA bC b W la lt lb).mono fun e W' ⟨he, bel⟩ => ?_
  subst he
  exact ⟨_, rfl, _, _, _, [], _, [], hW', trodAll_mk1 (shut_bool Try.underlying4 _), (trodAll_cons_mk (shut_vec iex iey iez) (trodAll_cons_mk (shuta W' (fun b => decide (b < W.heap.size)) bel (fun q hq => hold q (by simp [hq]))) (trodAll_cons_mk (shutt W' (fun b => decide (b < W.heap.size)) bel (fun q hq => hold q (by simp [hq]))) (trodAll_cons_mk (shutb W' (fun b => decide (b < W.heap.size)) bel (fun q hq => hold q (by simp [hq]))) trodAll_mk0)))), rfl, bel.frame _, fun h => by cases h⟩

theorem reads (os : Os) {H : Type} (enc : TypeId × Value → H) : ∃ places, DataW.whole enc Try.prog ((laidWorld os).forCall (fun _ _ => 0) ⟨#[], #[.agg #[.int .i64 0, .int .i64 0, .int .i64 0], .slice none 0 0, .slice none 0 0, .slice none 0 0], []⟩).memory Try.f13.params.toList Rows.sightSharesSpec.vars false (#[.agg #[.int .i64 0, .int .i64 0, .int .i64 0], .slice none 0 0, .slice none 0 0, .slice none 0 0] : Array Value).toList 8 = some ([.agg [.lit (.int .i64 0), .lit (.int .i64 0), .lit (.int .i64 0)], .nil, .nil, .nil], [], places) :=
  ⟨[], by kernel_rfl⟩

set_option maxRecDepth 100000 in
theorem lifted (os : Os) (started : os.Started) (H : Type) (enc : TypeId × Value → H) (F : Stop.Interp) :
    ReturnsInHanded {} Try.checked os 13 .any ((OpenSpec.ofChange Rows.sightSharesSpec).preRow enc Try.prog Try.f13 Rows.sightSharesRow.domain false Rows.sightSharesRow.laid) (((OpenSpec.ofChange Rows.sightSharesSpec).at F).post enc Try.prog Try.f13 false true false false) := by
  obtain ⟨places, hx⟩ := reads os enc
  refine returnsInHanded_of_row (C := Try.checked) (s := OpenSpec.ofChange Rows.sightSharesSpec) own started (by kernel_rfl) Try.func13
    (witness_row_atRef (enc := enc) (C := Try.checked) false (laidWorld os) #[.agg #[.int .i64 0, .int .i64 0, .int .i64 0], .slice none 0 0, .slice none 0 0, .slice none 0 0] rfl (by kernel_rfl) (by kernel_rfl) (by kernel_rfl)
      (OpenSpec.preRow_of_cond 8 hx (by kernel_rfl) (fun k hk => by cases hk) (by kernel_rfl) (laidWorld_met os _))) ?_
  intro W base args ds gs before hval hW _ hcond _ hL hsh _
  exact contract H enc W base args ds gs before hval hW

/-- The statement. -/
theorem said : Rows.SightSharesSaid :=
  OpenClaim.holds_of_cond 13 Try.f13 rfl rfl rfl rfl rfl rfl rfl ⟨rfl, rfl, rfl, rfl, rfl⟩ rfl rfl rfl rfl rfl (by kernel_rfl) Try.func13 (by kernel_rfl)
    (of_decide_eq_true (by kernel_rfl)) (by unfold Func.isWrapper; first | (rw [if_pos (by decide +kernel)]; kernel_rfl) | (rw [if_neg (by decide +kernel)]; exact ⟨rfl, rfl⟩))
    (fun os started H enc _ F => by rw [OpenClaim.pre_eq_preRow]; exact lifted os started H enc F)
end Go.Proofs.Ytjjimbaogpmbmaa.LawShares
