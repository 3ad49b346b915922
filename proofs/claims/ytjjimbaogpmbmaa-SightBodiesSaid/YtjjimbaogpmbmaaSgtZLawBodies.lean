/-
  SightBodies.
-/
import Derived.Test.YtjjimbaogpmbmaaSgtZE
import Derived.Test.YtjjimbaogpmbmaaSgtZD
import Derived.Test.YtjjimbaogpmbmaaSgtZV
import Derived.Test.YtjjimbaogpmbmaaRows
import Derived.ProofKit
import Derived.OpenShut
import Derived.Deep.DeepHandedRow
import Derived.Deep.DeepWitnessRowRef
import Derived.MakeChecks
import Derived.Deep.DeepCutAuto
import Derived.Deep.QuietTactic
import Derived.BigQuiet
namespace Go.Proofs.Ytjjimbaogpmbmaa.LawBodies
open Go.RowKit Go.Sort
open Go.RowKit (Below)
set_option linter.unusedVariables false
set_option linter.unusedSimpArgs false
attribute [local go_sem] Oper.semAt_some

/-- A share: reduced, of the sums. -/
structure Fr (p q n d : Int) : Prop where
  q0 : 0 < q
  d0 : 0 < d
  e : n * q = p * d
  v : vld n d = true
theorem sgn_scale {x y x' y' k l : Int} (hk : 0 < k) (hl : 0 < l) (hx : x * k = x' * l) (hy : y * k = y' * l) : sgn x y = sgn x' y' := by
  have e1 : x < y ↔ x' < y' := by rw [← Int.mul_lt_mul_right hk, hx, hy, Int.mul_lt_mul_right hl]
  have e2 : y < x ↔ y' < x' := by rw [← Int.mul_lt_mul_right hk, hx, hy, Int.mul_lt_mul_right hl]
  unfold sgn
  by_cases h1 : x' < y'
  · rw [if_pos (e1.2 h1), if_pos h1]
  · rw [if_neg (fun h => h1 (e1.1 h)), if_neg h1]
    by_cases h2 : y' < x'
    · rw [if_pos (e2.2 h2), if_pos h2]
    · rw [if_neg (fun h => h2 (e2.1 h)), if_neg h2]
theorem fr_sgn {p q n d p' q' n' d' : Int} (h : Fr p q n d) (k : Fr p' q' n' d') : sgn (n * d') (n' * d) = sgn (p * q') (p' * q) :=
  sgn_scale (Int.mul_pos h.q0 k.q0) (Int.mul_pos h.d0 k.d0) (by have := h.e; grind) (by have := k.e; grind)
theorem fr_mk {p q : Int} (h0 : 0 < q) (hq : q ≤ 100000000) (hp : 0 ≤ p ∧ p ≤ q) : Fr p q (mkN p q) (mkD p q) := by
  obtain ⟨e1, e2⟩ := mk_pos (n := p) h0 ⟨by omega, by omega⟩ hq
  rw [e1, e2]
  refine ⟨h0, qD_pos h0, ?_, q_vld h0 ⟨by omega, by omega⟩ hq⟩
  have h1 := qN_mul p q
  have h2 := qD_mul p q
  generalize qN p q = a at *
  generalize qD p q = b at *
  generalize gq p q = g at *
  rw [← h1, ← h2]; grind
theorem lines_e (ex ey ez : Int) (A : Option Addr) (C : Nat) (T : List Q4) (B : Option Addr) (D : Nat) (L : List Bv) (h4 : T.length ≤ 9223372036854775807) (h5 : L.length ≤ 9223372036854775807) (E : Int) (hE : Wrg ex ey ez T L E) (hs : Bsm L) (w : World) (hl : S4 w A T) (hm : BdS w B L) :
    Calls Try.prog 27 #[.agg #[.int .i64 ex, .int .i64 ey, .int .i64 ez], .slice A T.length C, .slice B L.length D] w fun e_ w' => ∃ v, e_ = .returned (.tuple #[v, .int .i64 E]) ∧ Below w.heap.size w w' := by
  by_cases h0 : E = 0
  · subst h0
    exact (lines_1 ex ey ez A C T B D L h4 h5 hE w hl hm).mono fun e w' ⟨g, h1, _, h2⟩ => ⟨_, h1, h2⟩
  · exact (lines_0 ex ey ez A C T B D L h4 h5 E hE h0 (fun _ _ => hs) w hl hm).mono fun e w' ⟨h1, h2⟩ => ⟨_, h1, h2⟩
theorem sls_app {w : World} {A B : Option Addr} {L M : List Bv} (h : BdS w A L) (k : BdS w B M) : ∀ i, i < (L ++ M).length → SlS w (gdB (L ++ M) i).A (gdB (L ++ M) i).xs := by
  intro i hi
  by_cases hl : i < L.length
  · obtain ⟨_, _, _, _, _, _, hs⟩ := h i hl
    rw [gdB_app_l hl]; exact hs
  · rw [List.length_append] at hi
    obtain ⟨_, _, _, _, _, _, hs⟩ := k (i - L.length) (by omega)
    rw [gdB_app_r hl]; exact hs
theorem bds_of_app {L M : List Bv} (h : Bds (L ++ M)) : Bds L := fun i hi => by
  have := h i (by rw [List.length_append]; omega)
  rwa [gdB_app_l hi] at this
theorem bsm_app {L M : List Bv} (h : Bsm L) (k : Bsm M) : Bsm (L ++ M) := fun i hi => by
  by_cases hl : i < L.length
  · rw [gdB_app_l hl]; exact h i hl
  · rw [List.length_append] at hi
    rw [gdB_app_r hl]; exact k _ (by omega)
section
variable {ex ey ez x y z : Int} {L M : List Bv}
theorem frs_app : frs ex ey ez x y z (L ++ M) = if frs ex ey ez x y z L < L.length then frs ex ey ez x y z L else frs ex ey ez x y z M + L.length := by
  unfold frs; exact List.findIdx_append
/-- A line past further bodies. -/
theorem lin_app (i : Int) : ((lin ex ey ez x y z L i).b ≠ -1 ∧ lin ex ey ez x y z (L ++ M) i = lin ex ey ez x y z L i) ∨
    ((lin ex ey ez x y z L i).b = -1 ∧ ((lin ex ey ez x y z (L ++ M) i).b = -1 ∨ ((lin ex ey ez x y z (L ++ M) i).b ≠ -1 ∧ (L.length : Int) ≤ (lin ex ey ez x y z (L ++ M) i).b))) := by
  by_cases h : frs ex ey ez x y z L < L.length
  · left
    have e : frs ex ey ez x y z (L ++ M) = frs ex ey ez x y z L := by rw [frs_app, if_pos h]
    have h2 : frs ex ey ez x y z (L ++ M) < (L ++ M).length := by rw [e, List.length_append]; omega
    rw [lin_hit h, lin_hit h2, e, gdB_app_l h]
    refine ⟨?_, rfl⟩
    show ((frs ex ey ez x y z L : Nat) : Int) ≠ -1
    omega
  · right
    have e : frs ex ey ez x y z (L ++ M) = frs ex ey ez x y z M + L.length := by rw [frs_app, if_neg h]
    have hl := frs_le (ex := ex) (ey := ey) (ez := ez) (x := x) (y := y) (z := z) (L := L)
    rw [lin_none (by omega)]
    refine ⟨rfl, ?_⟩
    by_cases h2 : frs ex ey ez x y z (L ++ M) < (L ++ M).length
    · right
      rw [lin_hit h2, e]
      refine ⟨?_, ?_⟩
      · show ((frs ex ey ez x y z M + L.length : Nat) : Int) ≠ -1
        omega
      · show (L.length : Int) ≤ ((frs ex ey ez x y z M + L.length : Nat) : Int)
        omega
    · left
      have := frs_le (ex := ex) (ey := ey) (ez := ez) (x := x) (y := y) (z := z) (L := L ++ M)
      rw [lin_none (by omega)]
end
theorem ssum_mono {ex ey ez : Int} {T : List Q4} {L M : List Bv} (ht : Tok T) : ∀ k, k ≤ T.length → ssum T (lns ex ey ez T (L ++ M)) k ≤ ssum T (lns ex ey ez T L) k
  | 0, _ => Int.le_refl _
  | k + 1, h => by
    have ih := ssum_mono (ex := ex) (ey := ey) (ez := ez) (L := L) (M := M) ht k (by omega)
    have hd := tok_d ht (k := k) (by omega)
    show ssum T (lns ex ey ez T (L ++ M)) k + (if (gd4 (lns ex ey ez T (L ++ M)) k).b = -1 then (gd4 T k).d else 0) ≤ ssum T (lns ex ey ez T L) k + (if (gd4 (lns ex ey ez T L) k).b = -1 then (gd4 T k).d else 0)
    rw [lns_at (by omega), lns_at (by omega)]
    rcases lin_app (ex := ex) (ey := ey) (ez := ez) (x := (gd4 T k).a) (y := (gd4 T k).b) (z := (gd4 T k).c) (L := L) (M := M) (k : Int) with ⟨h1, h2⟩ | ⟨h1, h2⟩
    · rw [h2]; omega
    · rw [if_pos h1]
      by_cases h3 : (lin ex ey ez (gd4 T k).a (gd4 T k).b (gd4 T k).c (L ++ M) (k : Int)).b = -1
      · rw [if_pos h3]; omega
      · rw [if_neg h3]; omega
theorem wrg_app {ex ey ez : Int} {T : List Q4} {L M : List Bv} {E G : Int} (h : Wrg ex ey ez T L E) (k : Wrg ex ey ez T (L ++ M) G) (hE : E ≠ 0) : G ≠ 0 := by
  rintro rfl
  obtain ⟨k1, k2, k3⟩ := wrg_zero k
  have hl : T.length ≤ 60 ∧ L.length ≤ 60 := by
    rcases k with ⟨_, k⟩ | ⟨_, _, _, k⟩ | ⟨a, b, _⟩
    · cases k
    · cases k
    · rw [List.length_append] at b; omega
  exact hE (wrg_fun h (Or.inr (Or.inr ⟨hl.1, hl.2, k1, k2, bds_of_app k3, rfl⟩)))
set_option maxRecDepth 100000 in
set_option maxHeartbeats 4000000 in
theorem bod_0 (ex ey ez : Int) (tA : Option Addr) (tC : Nat) (t : List Q4) (bA : Option Addr) (bC : Nat) (b : List Bv) (mA : Option Addr) (mC : Nat) (m : List Bv) (h4 : t.length ≤ 9223372036854775807) (h5 : b.length ≤ 9223372036854775807) (h7 : m.length ≤ 9223372036854775807) (h6 : ∀ k, k < b.length → (gdB b k).xs.length ≤ 9223372036854775807) (h8 : ∀ k, k < m.length → (gdB m k).xs.length ≤ 9223372036854775807) (hf : ¬ Few t.length b) (w : World) (ht : S4 w tA t) (hm : BdS w bA b) (hn : BdS w mA m) :
    Calls Try.prog 10 #[.agg #[.int .i64 ex, .int .i64 ey, .int .i64 ez], .slice tA t.length tC, .slice bA b.length bC, .slice mA m.length mC] w fun e_ w' => e_ = .returned (.bool true) ∧ Below w.heap.size w w' := by
  have HF := Lib.hid (fun W (h : BdS W bA b) => few9_is tA tC t bA bC b h4 h5 h6 false (by simp [hf]) W h)
  have HT := Lib.hid ht
  clear ht
  have HM := Lib.hid hm
  clear hm
  have HN := Lib.hid hn
  clear hn
  go_enter Try.func10, Try.ntmps10
  go_wp2_with fail
  obtain ⟨w1, hw1⟩ : ∃ V, (w.alloc (.cells #[.int .i64 ex, .int .i64 ey, .int .i64 ez] 27)) = V := ⟨_, rfl⟩
  obtain ⟨hB_, kp⟩ := boxes1 _ _ hw1
  rw [hw1]
  clear hw1
  have HB := Lib.hid hB_
  clear hB_
  have p0 := (cells3 kp).1
  have p1 := (cells3 kp).2.1
  have p2 := (cells3 kp).2.2
  have lp := block_lt p0
  replace HT := Lib.hid (HT.out.below HB.out)
  replace HM := Lib.hid (HM.out.below HB.out)
  replace HN := Lib.hid (HN.out.below HB.out)
  with_reducible refine (head9_any _).mono ?_
  rintro e_ w2 ⟨rfl, hb⟩
  replace HB := Lib.hid (on_below HB.out hb)
  replace HT := Lib.hid (HT.out.below hb)
  replace HM := Lib.hid (HM.out.below hb)
  replace HN := Lib.hid (HN.out.below hb)
  replace p0 := keepc hb p0
  replace p1 := keepc hb p1
  replace p2 := keepc hb p2
  replace kp := blk_on kp hb
  replace lp := Nat.lt_of_lt_of_le lp hb.size
  clear hb
  go_wp2_with fail
  with_reducible refine (HF.out _ HM.out).mono ?_
  rintro e_ w3 ⟨rfl, hb⟩
  replace HB := Lib.hid (on_below HB.out hb)
  replace HT := Lib.hid (HT.out.below hb)
  replace HM := Lib.hid (HM.out.below hb)
  replace HN := Lib.hid (HN.out.below hb)
  replace p0 := keepc hb p0
  replace p1 := keepc hb p1
  replace p2 := keepc hb p2
  replace kp := blk_on kp hb
  replace lp := Nat.lt_of_lt_of_le lp hb.size
  clear hb
  go_wp2_with fail
  go_ret
  exact ⟨rfl, HB.out⟩
set_option maxRecDepth 100000 in
set_option maxHeartbeats 4000000 in
theorem bod_1 (ex ey ez : Int) (tA : Option Addr) (tC : Nat) (t : List Q4) (bA : Option Addr) (bC : Nat) (b : List Bv) (mA : Option Addr) (mC : Nat) (m : List Bv) (h4 : t.length ≤ 9223372036854775807) (h5 : b.length ≤ 9223372036854775807) (h7 : m.length ≤ 9223372036854775807) (h6 : ∀ k, k < b.length → (gdB b k).xs.length ≤ 9223372036854775807) (h8 : ∀ k, k < m.length → (gdB m k).xs.length ≤ 9223372036854775807) (hf : Few t.length b) (hg : ¬ Few 0 m) (w : World) (ht : S4 w tA t) (hm : BdS w bA b) (hn : BdS w mA m) :
    Calls Try.prog 10 #[.agg #[.int .i64 ex, .int .i64 ey, .int .i64 ez], .slice tA t.length tC, .slice bA b.length bC, .slice mA m.length mC] w fun e_ w' => e_ = .returned (.bool true) ∧ Below w.heap.size w w' := by
  have HF := Lib.hid (fun W (h : BdS W bA b) => few9_is tA tC t bA bC b h4 h5 h6 true (by simp [hf]) W h)
  have HG := Lib.hid (fun W (h : BdS W mA m) => few9_is none 0 [] mA mC m (by simp) h7 h8 false (by simp [hg]) W h)
  simp only [List.length_nil] at HG
  have HT := Lib.hid ht
  clear ht
  have HM := Lib.hid hm
  clear hm
  have HN := Lib.hid hn
  clear hn
  go_enter Try.func10, Try.ntmps10
  go_wp2_with fail
  obtain ⟨w1, hw1⟩ : ∃ V, (w.alloc (.cells #[.int .i64 ex, .int .i64 ey, .int .i64 ez] 27)) = V := ⟨_, rfl⟩
  obtain ⟨hB_, kp⟩ := boxes1 _ _ hw1
  rw [hw1]
  clear hw1
  have HB := Lib.hid hB_
  clear hB_
  have p0 := (cells3 kp).1
  have p1 := (cells3 kp).2.1
  have p2 := (cells3 kp).2.2
  have lp := block_lt p0
  replace HT := Lib.hid (HT.out.below HB.out)
  replace HM := Lib.hid (HM.out.below HB.out)
  replace HN := Lib.hid (HN.out.below HB.out)
  with_reducible refine (head9_any _).mono ?_
  rintro e_ w2 ⟨rfl, hb⟩
  replace HB := Lib.hid (on_below HB.out hb)
  replace HT := Lib.hid (HT.out.below hb)
  replace HM := Lib.hid (HM.out.below hb)
  replace HN := Lib.hid (HN.out.below hb)
  replace p0 := keepc hb p0
  replace p1 := keepc hb p1
  replace p2 := keepc hb p2
  replace kp := blk_on kp hb
  replace lp := Nat.lt_of_lt_of_le lp hb.size
  clear hb
  go_wp2_with fail
  with_reducible refine (HF.out _ HM.out).mono ?_
  rintro e_ w3 ⟨rfl, hb⟩
  replace HB := Lib.hid (on_below HB.out hb)
  replace HT := Lib.hid (HT.out.below hb)
  replace HM := Lib.hid (HM.out.below hb)
  replace HN := Lib.hid (HN.out.below hb)
  replace p0 := keepc hb p0
  replace p1 := keepc hb p1
  replace p2 := keepc hb p2
  replace kp := blk_on kp hb
  replace lp := Nat.lt_of_lt_of_le lp hb.size
  clear hb
  go_wp2_with fail
  with_reducible refine (HG.out _ HN.out).mono ?_
  rintro e_ w4 ⟨rfl, hb⟩
  replace HB := Lib.hid (on_below HB.out hb)
  replace HT := Lib.hid (HT.out.below hb)
  replace HM := Lib.hid (HM.out.below hb)
  replace HN := Lib.hid (HN.out.below hb)
  replace p0 := keepc hb p0
  replace p1 := keepc hb p1
  replace p2 := keepc hb p2
  replace kp := blk_on kp hb
  replace lp := Nat.lt_of_lt_of_le lp hb.size
  clear hb
  go_wp2_with fail
  go_ret
  exact ⟨rfl, HB.out⟩
set_option maxRecDepth 100000 in
set_option maxHeartbeats 4000000 in
theorem bod_2 (ex ey ez : Int) (tA : Option Addr) (tC : Nat) (t : List Q4) (bA : Option Addr) (bC : Nat) (b : List Bv) (mA : Option Addr) (mC : Nat) (m : List Bv) (h4 : t.length ≤ 9223372036854775807) (h5 : b.length ≤ 9223372036854775807) (h7 : m.length ≤ 9223372036854775807) (h6 : ∀ k, k < b.length → (gdB b k).xs.length ≤ 9223372036854775807) (h8 : ∀ k, k < m.length → (gdB m k).xs.length ≤ 9223372036854775807) (hf : Few t.length b) (hg : Few 0 m) (h0 : 6 < b.length) (w : World) (ht : S4 w tA t) (hm : BdS w bA b) (hn : BdS w mA m) :
    Calls Try.prog 10 #[.agg #[.int .i64 ex, .int .i64 ey, .int .i64 ez], .slice tA t.length tC, .slice bA b.length bC, .slice mA m.length mC] w fun e_ w' => e_ = .returned (.bool true) ∧ Below w.heap.size w w' := by
  have HF := Lib.hid (fun W (h : BdS W bA b) => few9_is tA tC t bA bC b h4 h5 h6 true (by simp [hf]) W h)
  have HG := Lib.hid (fun W (h : BdS W mA m) => few9_is none 0 [] mA mC m (by simp) h7 h8 true (by simp [hg]) W h)
  simp only [List.length_nil] at HG
  clear hf hg
  have HT := Lib.hid ht
  clear ht
  have HM := Lib.hid hm
  clear hm
  have HN := Lib.hid hn
  clear hn
  go_enter Try.func10, Try.ntmps10
  go_wp2_with fail
  obtain ⟨w1, hw1⟩ : ∃ V, (w.alloc (.cells #[.int .i64 ex, .int .i64 ey, .int .i64 ez] 27)) = V := ⟨_, rfl⟩
  obtain ⟨hB_, kp⟩ := boxes1 _ _ hw1
  rw [hw1]
  clear hw1
  have HB := Lib.hid hB_
  clear hB_
  have p0 := (cells3 kp).1
  have p1 := (cells3 kp).2.1
  have p2 := (cells3 kp).2.2
  have lp := block_lt p0
  replace HT := Lib.hid (HT.out.below HB.out)
  replace HM := Lib.hid (HM.out.below HB.out)
  replace HN := Lib.hid (HN.out.below HB.out)
  with_reducible refine (head9_any _).mono ?_
  rintro e_ w2 ⟨rfl, hb⟩
  replace HB := Lib.hid (on_below HB.out hb)
  replace HT := Lib.hid (HT.out.below hb)
  replace HM := Lib.hid (HM.out.below hb)
  replace HN := Lib.hid (HN.out.below hb)
  replace p0 := keepc hb p0
  replace p1 := keepc hb p1
  replace p2 := keepc hb p2
  replace kp := blk_on kp hb
  replace lp := Nat.lt_of_lt_of_le lp hb.size
  clear hb
  go_wp2_with fail
  with_reducible refine (HF.out _ HM.out).mono ?_
  rintro e_ w3 ⟨rfl, hb⟩
  replace HB := Lib.hid (on_below HB.out hb)
  replace HT := Lib.hid (HT.out.below hb)
  replace HM := Lib.hid (HM.out.below hb)
  replace HN := Lib.hid (HN.out.below hb)
  replace p0 := keepc hb p0
  replace p1 := keepc hb p1
  replace p2 := keepc hb p2
  replace kp := blk_on kp hb
  replace lp := Nat.lt_of_lt_of_le lp hb.size
  clear hb
  go_wp2_with fail
  with_reducible refine (HG.out _ HN.out).mono ?_
  rintro e_ w4 ⟨rfl, hb⟩
  replace HB := Lib.hid (on_below HB.out hb)
  replace HT := Lib.hid (HT.out.below hb)
  replace HM := Lib.hid (HM.out.below hb)
  replace HN := Lib.hid (HN.out.below hb)
  replace p0 := keepc hb p0
  replace p1 := keepc hb p1
  replace p2 := keepc hb p2
  replace kp := blk_on kp hb
  replace lp := Nat.lt_of_lt_of_le lp hb.size
  clear hb
  go_wp2_with fail
  go_ret
  exact ⟨rfl, HB.out⟩
set_option maxRecDepth 100000 in
set_option maxHeartbeats 4000000 in
theorem bod_3 (ex ey ez : Int) (tA : Option Addr) (tC : Nat) (t : List Q4) (bA : Option Addr) (bC : Nat) (b : List Bv) (mA : Option Addr) (mC : Nat) (m : List Bv) (h4 : t.length ≤ 9223372036854775807) (h5 : b.length ≤ 9223372036854775807) (h7 : m.length ≤ 9223372036854775807) (h6 : ∀ k, k < b.length → (gdB b k).xs.length ≤ 9223372036854775807) (h8 : ∀ k, k < m.length → (gdB m k).xs.length ≤ 9223372036854775807) (hf : Few t.length b) (hg : Few 0 m) (h0 : b.length ≤ 6) (h1 : 6 < m.length) (w : World) (ht : S4 w tA t) (hm : BdS w bA b) (hn : BdS w mA m) :
    Calls Try.prog 10 #[.agg #[.int .i64 ex, .int .i64 ey, .int .i64 ez], .slice tA t.length tC, .slice bA b.length bC, .slice mA m.length mC] w fun e_ w' => e_ = .returned (.bool true) ∧ Below w.heap.size w w' := by
  have HF := Lib.hid (fun W (h : BdS W bA b) => few9_is tA tC t bA bC b h4 h5 h6 true (by simp [hf]) W h)
  have HG := Lib.hid (fun W (h : BdS W mA m) => few9_is none 0 [] mA mC m (by simp) h7 h8 true (by simp [hg]) W h)
  simp only [List.length_nil] at HG
  clear hf hg
  have HT := Lib.hid ht
  clear ht
  have HM := Lib.hid hm
  clear hm
  have HN := Lib.hid hn
  clear hn
  go_enter Try.func10, Try.ntmps10
  go_wp2_with fail
  obtain ⟨w1, hw1⟩ : ∃ V, (w.alloc (.cells #[.int .i64 ex, .int .i64 ey, .int .i64 ez] 27)) = V := ⟨_, rfl⟩
  obtain ⟨hB_, kp⟩ := boxes1 _ _ hw1
  rw [hw1]
  clear hw1
  have HB := Lib.hid hB_
  clear hB_
  have p0 := (cells3 kp).1
  have p1 := (cells3 kp).2.1
  have p2 := (cells3 kp).2.2
  have lp := block_lt p0
  replace HT := Lib.hid (HT.out.below HB.out)
  replace HM := Lib.hid (HM.out.below HB.out)
  replace HN := Lib.hid (HN.out.below HB.out)
  with_reducible refine (head9_any _).mono ?_
  rintro e_ w2 ⟨rfl, hb⟩
  replace HB := Lib.hid (on_below HB.out hb)
  replace HT := Lib.hid (HT.out.below hb)
  replace HM := Lib.hid (HM.out.below hb)
  replace HN := Lib.hid (HN.out.below hb)
  replace p0 := keepc hb p0
  replace p1 := keepc hb p1
  replace p2 := keepc hb p2
  replace kp := blk_on kp hb
  replace lp := Nat.lt_of_lt_of_le lp hb.size
  clear hb
  go_wp2_with fail
  with_reducible refine (HF.out _ HM.out).mono ?_
  rintro e_ w3 ⟨rfl, hb⟩
  replace HB := Lib.hid (on_below HB.out hb)
  replace HT := Lib.hid (HT.out.below hb)
  replace HM := Lib.hid (HM.out.below hb)
  replace HN := Lib.hid (HN.out.below hb)
  replace p0 := keepc hb p0
  replace p1 := keepc hb p1
  replace p2 := keepc hb p2
  replace kp := blk_on kp hb
  replace lp := Nat.lt_of_lt_of_le lp hb.size
  clear hb
  go_wp2_with fail
  with_reducible refine (HG.out _ HN.out).mono ?_
  rintro e_ w4 ⟨rfl, hb⟩
  replace HB := Lib.hid (on_below HB.out hb)
  replace HT := Lib.hid (HT.out.below hb)
  replace HM := Lib.hid (HM.out.below hb)
  replace HN := Lib.hid (HN.out.below hb)
  replace p0 := keepc hb p0
  replace p1 := keepc hb p1
  replace p2 := keepc hb p2
  replace kp := blk_on kp hb
  replace lp := Nat.lt_of_lt_of_le lp hb.size
  clear hb
  go_wp2_with fail
  go_ret
  exact ⟨rfl, HB.out⟩
set_option maxRecDepth 100000 in
set_option maxHeartbeats 4000000 in
theorem bod_4 (ex ey ez : Int) (tA : Option Addr) (tC : Nat) (t : List Q4) (bA : Option Addr) (bC : Nat) (b : List Bv) (mA : Option Addr) (mC : Nat) (m : List Bv) (h4 : t.length ≤ 9223372036854775807) (h5 : b.length ≤ 9223372036854775807) (h7 : m.length ≤ 9223372036854775807) (h6 : ∀ k, k < b.length → (gdB b k).xs.length ≤ 9223372036854775807) (h8 : ∀ k, k < m.length → (gdB m k).xs.length ≤ 9223372036854775807) (hf : Few t.length b) (hg : Few 0 m) (h0 : b.length ≤ 6) (h1 : m.length ≤ 6) (E G : Int) (hE : Wrg ex ey ez t b E) (hG : Wrg ex ey ez t (b ++ m) G) (hz : E ≠ 0) (hy : G ≠ 0) (w : World) (ht : S4 w tA t) (hm : BdS w bA b) (hn : BdS w mA m) :
    Calls Try.prog 10 #[.agg #[.int .i64 ex, .int .i64 ey, .int .i64 ez], .slice tA t.length tC, .slice bA b.length bC, .slice mA m.length mC] w fun e_ w' => e_ = .returned (.bool true) ∧ Below w.heap.size w w' := by
  have HF := Lib.hid (fun W (h : BdS W bA b) => few9_is tA tC t bA bC b h4 h5 h6 true (by simp [hf]) W h)
  have HG := Lib.hid (fun W (h : BdS W mA m) => few9_is none 0 [] mA mC m (by simp) h7 h8 true (by simp [hg]) W h)
  simp only [List.length_nil] at HG
  have C1 := Lib.hid (fun W (x : S4 W tA t) (c : BdS W bA b) => lines_e ex ey ez tA tC t bA bC b h4 h5 E hE (few_bsm hf) W x c)
  have C2 := Lib.hid (fun A C W (x : S4 W tA t) (c : BdS W A (b ++ m)) => lines_e ex ey ez tA tC t A C (b ++ m) h4 (by rw [List.length_append]; omega) G hG (bsm_app (few_bsm hf) (few_bsm hg)) W x c)
  simp only [List.length_append] at C2
  have z0 : (E != 0) = true := by simp [hz]
  have z1 : (G != 0) = true := by simp [hy]
  obtain ⟨i0, hi0, hz0, hz1, hz2⟩ := info_of (show (Try.prog.info? 42).map (fun i => (i.zero, i.size, i.bytes)) = some (some (.agg #[.slice none 0 0, .int .i64 0, .int .i64 0]), 3, 40) by kernel_rfl)
  clear hf hg hE hG hy h4 h5 h6 h7 h8 hz
  have HT := Lib.hid ht
  clear ht
  have HM := Lib.hid hm
  clear hm
  have HN := Lib.hid hn
  clear hn
  go_enter Try.func10, Try.ntmps10
  go_wp2_with fail
  obtain ⟨w1, hw1⟩ : ∃ V, (w.alloc (.cells #[.int .i64 ex, .int .i64 ey, .int .i64 ez] 27)) = V := ⟨_, rfl⟩
  obtain ⟨hB_, kp⟩ := boxes1 _ _ hw1
  rw [hw1]
  clear hw1
  have HB := Lib.hid hB_
  clear hB_
  have p0 := (cells3 kp).1
  have p1 := (cells3 kp).2.1
  have p2 := (cells3 kp).2.2
  have lp := block_lt p0
  replace HT := Lib.hid (HT.out.below HB.out)
  replace HM := Lib.hid (HM.out.below HB.out)
  replace HN := Lib.hid (HN.out.below HB.out)
  with_reducible refine (head9_any _).mono ?_
  rintro e_ w2 ⟨rfl, hb⟩
  replace HB := Lib.hid (on_below HB.out hb)
  replace HT := Lib.hid (HT.out.below hb)
  replace HM := Lib.hid (HM.out.below hb)
  replace HN := Lib.hid (HN.out.below hb)
  replace p0 := keepc hb p0
  replace p1 := keepc hb p1
  replace p2 := keepc hb p2
  replace kp := blk_on kp hb
  replace lp := Nat.lt_of_lt_of_le lp hb.size
  clear hb
  go_wp2_with fail
  with_reducible refine (HF.out _ HM.out).mono ?_
  rintro e_ w3 ⟨rfl, hb⟩
  replace HB := Lib.hid (on_below HB.out hb)
  replace HT := Lib.hid (HT.out.below hb)
  replace HM := Lib.hid (HM.out.below hb)
  replace HN := Lib.hid (HN.out.below hb)
  replace p0 := keepc hb p0
  replace p1 := keepc hb p1
  replace p2 := keepc hb p2
  replace kp := blk_on kp hb
  replace lp := Nat.lt_of_lt_of_le lp hb.size
  clear hb
  go_wp2_with fail
  with_reducible refine (HG.out _ HN.out).mono ?_
  rintro e_ w4 ⟨rfl, hb⟩
  replace HB := Lib.hid (on_below HB.out hb)
  replace HT := Lib.hid (HT.out.below hb)
  replace HM := Lib.hid (HM.out.below hb)
  replace HN := Lib.hid (HN.out.below hb)
  replace p0 := keepc hb p0
  replace p1 := keepc hb p1
  replace p2 := keepc hb p2
  replace kp := blk_on kp hb
  replace lp := Nat.lt_of_lt_of_le lp hb.size
  clear hb
  have hb0 : Below w4.heap.size w4 (w4.alloc (.cells #[] 42)) := below_new _ _
  have own0 := own_lit w4 w4.heap.size 42 3 (Nat.le_refl _)
  go_wp2_with (first
    | (at_builtin; refine wpList_app _ rfl (.tmp 44) (.tmp 45) 34 rfl w4.heap.size 42 i0 _ 3 40 Try.underlying34 hi0 hz0 hz1 hz2 rfl (by omega) _ 0 [] rfl own0 bA b.length bC (flt bvc b) rfl (flt_len bvc_len b) (bds_src (HM.out.below hb0)) (flt_one bvc_one b) (by unfold maxLen; omega) (by omega) hb0.size ?_; intro v1 u1 own1 gr1; have hb1 := app_below hb0 hb0.size own0 (Nat.le_refl _) gr1; clear gr1)
    | (at_builtin; refine wpList_app _ rfl (.tmp 46) (.tmp 47) 34 rfl w4.heap.size 42 i0 _ 3 40 Try.underlying34 hi0 hz0 hz1 hz2 rfl (by omega) _ (0 + b.length) ([] ++ flt bvc b) rfl own1 mA m.length mC (flt bvc m) rfl (flt_len bvc_len m) (bds_src (HN.out.below hb1)) (flt_one bvc_one m) (by unfold maxLen; omega) (by omega) hb1.size ?_; intro v2 u2 own2 gr2; have hb2 := app_below hb1 hb1.size own1 (Nat.le_refl _) gr2; replace p0 := keepc hb2 p0; replace p1 := keepc hb2 p1; replace p2 := keepc hb2 p2; clear gr2))
  have hb := hb2
  clear hb2 hb1 hb0 own0
  rw [List.nil_append, flt_app] at own2
  replace HT := Lib.hid (HT.out.below hb)
  replace HM := Lib.hid (HM.out.below hb)
  replace HN := Lib.hid (HN.out.below hb)
  obtain ⟨xA, xC, rfl, _, _, _, hxs⟩ := own_bds own2 (sls_app HM.out HN.out)
  have HS := Lib.hid hxs
  clear own2 own1 hxs
  replace HB := Lib.hid (on_below HB.out hb)
  clear hb
  have lp := block_lt p0
  go_wp2_with fail
  with_reducible refine (C1.out _ HT.out HM.out).mono ?_
  rintro e_ w5 ⟨y1, rfl, hb⟩
  replace HB := Lib.hid (on_below HB.out hb)
  replace HT := Lib.hid (HT.out.below hb)
  replace HM := Lib.hid (HM.out.below hb)
  replace HN := Lib.hid (HN.out.below hb)
  replace HS := Lib.hid (HS.out.below hb)
  replace p0 := keepc hb p0
  replace p1 := keepc hb p1
  replace p2 := keepc hb p2
  replace lp := Nat.lt_of_lt_of_le lp hb.size
  clear hb
  go_wp2_with fail
  with_reducible refine (C2.out _ _ _ HT.out HS.out).mono ?_
  rintro e_ w6 ⟨y2, rfl, hb⟩
  replace HB := Lib.hid (on_below HB.out hb)
  replace HT := Lib.hid (HT.out.below hb)
  replace HM := Lib.hid (HM.out.below hb)
  replace HN := Lib.hid (HN.out.below hb)
  replace HS := Lib.hid (HS.out.below hb)
  replace p0 := keepc hb p0
  replace p1 := keepc hb p1
  replace p2 := keepc hb p2
  replace lp := Nat.lt_of_lt_of_le lp hb.size
  clear hb
  go_wp2_with fail
  go_ret
  exact ⟨rfl, HB.out⟩
set_option maxRecDepth 100000 in
set_option maxHeartbeats 4000000 in
theorem bod_5 (ex ey ez : Int) (tA : Option Addr) (tC : Nat) (t : List Q4) (bA : Option Addr) (bC : Nat) (b : List Bv) (mA : Option Addr) (mC : Nat) (m : List Bv) (h4 : t.length ≤ 9223372036854775807) (h5 : b.length ≤ 9223372036854775807) (h7 : m.length ≤ 9223372036854775807) (h6 : ∀ k, k < b.length → (gdB b k).xs.length ≤ 9223372036854775807) (h8 : ∀ k, k < m.length → (gdB m k).xs.length ≤ 9223372036854775807) (hf : Few t.length b) (hg : Few 0 m) (h0 : b.length ≤ 6) (h1 : m.length ≤ 6) (G : Int) (hE : Wrg ex ey ez t b 0) (hG : Wrg ex ey ez t (b ++ m) G) (hy : G ≠ 0) (w : World) (ht : S4 w tA t) (hm : BdS w bA b) (hn : BdS w mA m) :
    Calls Try.prog 10 #[.agg #[.int .i64 ex, .int .i64 ey, .int .i64 ez], .slice tA t.length tC, .slice bA b.length bC, .slice mA m.length mC] w fun e_ w' => e_ = .returned (.bool true) ∧ Below w.heap.size w w' := by
  have HF := Lib.hid (fun W (h : BdS W bA b) => few9_is tA tC t bA bC b h4 h5 h6 true (by simp [hf]) W h)
  have HG := Lib.hid (fun W (h : BdS W mA m) => few9_is none 0 [] mA mC m (by simp) h7 h8 true (by simp [hg]) W h)
  simp only [List.length_nil] at HG
  have C1 := Lib.hid (fun W (x : S4 W tA t) (c : BdS W bA b) => lines_e ex ey ez tA tC t bA bC b h4 h5 0 hE (few_bsm hf) W x c)
  have C2 := Lib.hid (fun A C W (x : S4 W tA t) (c : BdS W A (b ++ m)) => lines_e ex ey ez tA tC t A C (b ++ m) h4 (by rw [List.length_append]; omega) G hG (bsm_app (few_bsm hf) (few_bsm hg)) W x c)
  simp only [List.length_append] at C2
  have z0 : ((0 : Int) != 0) = false := rfl
  have z1 : (G != 0) = true := by simp [hy]
  obtain ⟨i0, hi0, hz0, hz1, hz2⟩ := info_of (show (Try.prog.info? 42).map (fun i => (i.zero, i.size, i.bytes)) = some (some (.agg #[.slice none 0 0, .int .i64 0, .int .i64 0]), 3, 40) by kernel_rfl)
  clear hf hg hE hG hy h4 h5 h6 h7 h8
  have HT := Lib.hid ht
  clear ht
  have HM := Lib.hid hm
  clear hm
  have HN := Lib.hid hn
  clear hn
  go_enter Try.func10, Try.ntmps10
  go_wp2_with fail
  obtain ⟨w1, hw1⟩ : ∃ V, (w.alloc (.cells #[.int .i64 ex, .int .i64 ey, .int .i64 ez] 27)) = V := ⟨_, rfl⟩
  obtain ⟨hB_, kp⟩ := boxes1 _ _ hw1
  rw [hw1]
  clear hw1
  have HB := Lib.hid hB_
  clear hB_
  have p0 := (cells3 kp).1
  have p1 := (cells3 kp).2.1
  have p2 := (cells3 kp).2.2
  have lp := block_lt p0
  replace HT := Lib.hid (HT.out.below HB.out)
  replace HM := Lib.hid (HM.out.below HB.out)
  replace HN := Lib.hid (HN.out.below HB.out)
  with_reducible refine (head9_any _).mono ?_
  rintro e_ w2 ⟨rfl, hb⟩
  replace HB := Lib.hid (on_below HB.out hb)
  replace HT := Lib.hid (HT.out.below hb)
  replace HM := Lib.hid (HM.out.below hb)
  replace HN := Lib.hid (HN.out.below hb)
  replace p0 := keepc hb p0
  replace p1 := keepc hb p1
  replace p2 := keepc hb p2
  replace kp := blk_on kp hb
  replace lp := Nat.lt_of_lt_of_le lp hb.size
  clear hb
  go_wp2_with fail
  with_reducible refine (HF.out _ HM.out).mono ?_
  rintro e_ w3 ⟨rfl, hb⟩
  replace HB := Lib.hid (on_below HB.out hb)
  replace HT := Lib.hid (HT.out.below hb)
  replace HM := Lib.hid (HM.out.below hb)
  replace HN := Lib.hid (HN.out.below hb)
  replace p0 := keepc hb p0
  replace p1 := keepc hb p1
  replace p2 := keepc hb p2
  replace kp := blk_on kp hb
  replace lp := Nat.lt_of_lt_of_le lp hb.size
  clear hb
  go_wp2_with fail
  with_reducible refine (HG.out _ HN.out).mono ?_
  rintro e_ w4 ⟨rfl, hb⟩
  replace HB := Lib.hid (on_below HB.out hb)
  replace HT := Lib.hid (HT.out.below hb)
  replace HM := Lib.hid (HM.out.below hb)
  replace HN := Lib.hid (HN.out.below hb)
  replace p0 := keepc hb p0
  replace p1 := keepc hb p1
  replace p2 := keepc hb p2
  replace kp := blk_on kp hb
  replace lp := Nat.lt_of_lt_of_le lp hb.size
  clear hb
  have hb0 : Below w4.heap.size w4 (w4.alloc (.cells #[] 42)) := below_new _ _
  have own0 := own_lit w4 w4.heap.size 42 3 (Nat.le_refl _)
  go_wp2_with (first
    | (at_builtin; refine wpList_app _ rfl (.tmp 44) (.tmp 45) 34 rfl w4.heap.size 42 i0 _ 3 40 Try.underlying34 hi0 hz0 hz1 hz2 rfl (by omega) _ 0 [] rfl own0 bA b.length bC (flt bvc b) rfl (flt_len bvc_len b) (bds_src (HM.out.below hb0)) (flt_one bvc_one b) (by unfold maxLen; omega) (by omega) hb0.size ?_; intro v1 u1 own1 gr1; have hb1 := app_below hb0 hb0.size own0 (Nat.le_refl _) gr1; clear gr1)
    | (at_builtin; refine wpList_app _ rfl (.tmp 46) (.tmp 47) 34 rfl w4.heap.size 42 i0 _ 3 40 Try.underlying34 hi0 hz0 hz1 hz2 rfl (by omega) _ (0 + b.length) ([] ++ flt bvc b) rfl own1 mA m.length mC (flt bvc m) rfl (flt_len bvc_len m) (bds_src (HN.out.below hb1)) (flt_one bvc_one m) (by unfold maxLen; omega) (by omega) hb1.size ?_; intro v2 u2 own2 gr2; have hb2 := app_below hb1 hb1.size own1 (Nat.le_refl _) gr2; replace p0 := keepc hb2 p0; replace p1 := keepc hb2 p1; replace p2 := keepc hb2 p2; clear gr2))
  have hb := hb2
  clear hb2 hb1 hb0 own0
  rw [List.nil_append, flt_app] at own2
  replace HT := Lib.hid (HT.out.below hb)
  replace HM := Lib.hid (HM.out.below hb)
  replace HN := Lib.hid (HN.out.below hb)
  obtain ⟨xA, xC, rfl, _, _, _, hxs⟩ := own_bds own2 (sls_app HM.out HN.out)
  have HS := Lib.hid hxs
  clear own2 own1 hxs
  replace HB := Lib.hid (on_below HB.out hb)
  clear hb
  have lp := block_lt p0
  go_wp2_with fail
  with_reducible refine (C1.out _ HT.out HM.out).mono ?_
  rintro e_ w5 ⟨y1, rfl, hb⟩
  replace HB := Lib.hid (on_below HB.out hb)
  replace HT := Lib.hid (HT.out.below hb)
  replace HM := Lib.hid (HM.out.below hb)
  replace HN := Lib.hid (HN.out.below hb)
  replace HS := Lib.hid (HS.out.below hb)
  replace p0 := keepc hb p0
  replace p1 := keepc hb p1
  replace p2 := keepc hb p2
  replace lp := Nat.lt_of_lt_of_le lp hb.size
  clear hb
  go_wp2_with fail
  with_reducible refine (C2.out _ _ _ HT.out HS.out).mono ?_
  rintro e_ w6 ⟨y2, rfl, hb⟩
  replace HB := Lib.hid (on_below HB.out hb)
  replace HT := Lib.hid (HT.out.below hb)
  replace HM := Lib.hid (HM.out.below hb)
  replace HN := Lib.hid (HN.out.below hb)
  replace HS := Lib.hid (HS.out.below hb)
  replace p0 := keepc hb p0
  replace p1 := keepc hb p1
  replace p2 := keepc hb p2
  replace lp := Nat.lt_of_lt_of_le lp hb.size
  clear hb
  go_wp2_with fail
  go_ret
  exact ⟨rfl, HB.out⟩
theorem eqr (a b c d : Int) (W : World) : (binOp .eql 70 (.agg #[.int .i64 a, .int .i64 b, .int .i64 c, .int .i64 d]) (.agg #[.int .i64 a, .int .i64 b, .int .i64 c, .int .i64 d])).run Try.prog W = .ok (.bool true) W := by simp [go_sem]
set_option maxRecDepth 100000 in
set_option maxHeartbeats 4000000 in
theorem bod_6 (ex ey ez : Int) (tA : Option Addr) (tC : Nat) (t : List Q4) (bA : Option Addr) (bC : Nat) (b : List Bv) (mA : Option Addr) (mC : Nat) (m : List Bv) (h4 : t.length ≤ 9223372036854775807) (h5 : b.length ≤ 9223372036854775807) (h7 : m.length ≤ 9223372036854775807) (h6 : ∀ k, k < b.length → (gdB b k).xs.length ≤ 9223372036854775807) (h8 : ∀ k, k < m.length → (gdB m k).xs.length ≤ 9223372036854775807) (hf : Few t.length b) (hg : Few 0 m) (h0 : b.length ≤ 6) (h1 : m.length ≤ 6) (hE : Wrg ex ey ez t b 0) (hG : Wrg ex ey ez t (b ++ m) 0) (sn sd tn td c : Int) (hS : ShR t (lns ex ey ez t b) sn sd 0) (hT : ShR t (lns ex ey ez t (b ++ m)) tn td 0) (v1 : vld sn sd = true) (v2 : vld tn td = true) (g1 : sgn (tn * sd) (sn * td) = c) (hc : c ≤ 0) (w : World) (ht : S4 w tA t) (hm : BdS w bA b) (hn : BdS w mA m) :
    Calls Try.prog 10 #[.agg #[.int .i64 ex, .int .i64 ey, .int .i64 ez], .slice tA t.length tC, .slice bA b.length bC, .slice mA m.length mC] w fun e_ w' => e_ = .returned (.bool true) ∧ Below w.heap.size w w' := by
  have HF := Lib.hid (fun W (h : BdS W bA b) => few9_is tA tC t bA bC b h4 h5 h6 true (by simp [hf]) W h)
  have HG := Lib.hid (fun W (h : BdS W mA m) => few9_is none 0 [] mA mC m (by simp) h7 h8 true (by simp [hg]) W h)
  simp only [List.length_nil] at HG
  have C1 := Lib.hid (fun W (x : S4 W tA t) (c : BdS W bA b) => lines_1 ex ey ez tA tC t bA bC b h4 h5 hE W x c)
  have C2 := Lib.hid (fun A C W (x : S4 W tA t) (c : BdS W A (b ++ m)) => lines_1 ex ey ez tA tC t A C (b ++ m) h4 (by rw [List.length_append]; omega) hG W x c)
  simp only [List.length_append] at C2
  have D1 := Lib.hid (fun g W (x : S4 W tA t) (y : S4 W (some ⟨g, 0, none⟩) (lns ex ey ez t b)) => share_is tA tC t (some ⟨g, 0, none⟩) t.length (lns ex ey ez t b) h4 (by rw [lns_len]; exact h4) sn sd 0 hS W x y)
  have D2 := Lib.hid (fun g W (x : S4 W tA t) (y : S4 W (some ⟨g, 0, none⟩) (lns ex ey ez t (b ++ m))) => share_is tA tC t (some ⟨g, 0, none⟩) t.length (lns ex ey ez t (b ++ m)) h4 (by rw [lns_len]; exact h4) tn td 0 hT W x y)
  rw [lns_len] at D1 D2
  have K1 := Lib.hid (fun W => by have h := cmp_any tn td sn sd W (vld_i64 v2).1 (vld_i64 v2).2 (vld_i64 v1).1 (vld_i64 v1).2; rw [v2, v1] at h; simp only [cmpR, cmpE, Bool.and_self, if_true] at h; rw [g1] at h; exact h)
  have HX : Hid (∀ k, k < t.length → ((gd4 (lns ex ey ez t b) k).b ≠ -1 ∧ gd4 (lns ex ey ez t (b ++ m)) k = gd4 (lns ex ey ez t b) k) ∨ ((gd4 (lns ex ey ez t b) k).b = -1 ∧ ((gd4 (lns ex ey ez t (b ++ m)) k).b = -1 ∨ ((gd4 (lns ex ey ez t (b ++ m)) k).b ≠ -1 ∧ (b.length : Int) ≤ (gd4 (lns ex ey ez t (b ++ m)) k).b)))) := fun k hk => by rw [lns_at hk, lns_at hk]; exact lin_app _
  have lt0 := hf.1
  obtain ⟨i0, hi0, hz0, hz1, hz2⟩ := info_of (show (Try.prog.info? 42).map (fun i => (i.zero, i.size, i.bytes)) = some (some (.agg #[.slice none 0 0, .int .i64 0, .int .i64 0]), 3, 40) by kernel_rfl)
  clear hf hg hE hG hS hT v1 v2 g1 h4 h5 h6 h7 h8
  have HT := Lib.hid ht
  clear ht
  have HM := Lib.hid hm
  clear hm
  have HN := Lib.hid hn
  clear hn
  go_enter Try.func10, Try.ntmps10
  go_wp2_with fail
  obtain ⟨w1, hw1⟩ : ∃ V, (w.alloc (.cells #[.int .i64 ex, .int .i64 ey, .int .i64 ez] 27)) = V := ⟨_, rfl⟩
  obtain ⟨hB_, kp⟩ := boxes1 _ _ hw1
  rw [hw1]
  clear hw1
  have HB := Lib.hid hB_
  clear hB_
  have p0 := (cells3 kp).1
  have p1 := (cells3 kp).2.1
  have p2 := (cells3 kp).2.2
  have lp := block_lt p0
  replace HT := Lib.hid (HT.out.below HB.out)
  replace HM := Lib.hid (HM.out.below HB.out)
  replace HN := Lib.hid (HN.out.below HB.out)
  with_reducible refine (head9_any _).mono ?_
  rintro e_ w2 ⟨rfl, hb⟩
  replace HB := Lib.hid (on_below HB.out hb)
  replace HT := Lib.hid (HT.out.below hb)
  replace HM := Lib.hid (HM.out.below hb)
  replace HN := Lib.hid (HN.out.below hb)
  replace p0 := keepc hb p0
  replace p1 := keepc hb p1
  replace p2 := keepc hb p2
  replace kp := blk_on kp hb
  replace lp := Nat.lt_of_lt_of_le lp hb.size
  clear hb
  go_wp2_with fail
  with_reducible refine (HF.out _ HM.out).mono ?_
  rintro e_ w3 ⟨rfl, hb⟩
  replace HB := Lib.hid (on_below HB.out hb)
  replace HT := Lib.hid (HT.out.below hb)
  replace HM := Lib.hid (HM.out.below hb)
  replace HN := Lib.hid (HN.out.below hb)
  replace p0 := keepc hb p0
  replace p1 := keepc hb p1
  replace p2 := keepc hb p2
  replace kp := blk_on kp hb
  replace lp := Nat.lt_of_lt_of_le lp hb.size
  clear hb
  go_wp2_with fail
  with_reducible refine (HG.out _ HN.out).mono ?_
  rintro e_ w4 ⟨rfl, hb⟩
  replace HB := Lib.hid (on_below HB.out hb)
  replace HT := Lib.hid (HT.out.below hb)
  replace HM := Lib.hid (HM.out.below hb)
  replace HN := Lib.hid (HN.out.below hb)
  replace p0 := keepc hb p0
  replace p1 := keepc hb p1
  replace p2 := keepc hb p2
  replace kp := blk_on kp hb
  replace lp := Nat.lt_of_lt_of_le lp hb.size
  clear hb
  have hb0 : Below w4.heap.size w4 (w4.alloc (.cells #[] 42)) := below_new _ _
  have own0 := own_lit w4 w4.heap.size 42 3 (Nat.le_refl _)
  go_wp2_with (first
    | (at_builtin; refine wpList_app _ rfl (.tmp 44) (.tmp 45) 34 rfl w4.heap.size 42 i0 _ 3 40 Try.underlying34 hi0 hz0 hz1 hz2 rfl (by omega) _ 0 [] rfl own0 bA b.length bC (flt bvc b) rfl (flt_len bvc_len b) (bds_src (HM.out.below hb0)) (flt_one bvc_one b) (by unfold maxLen; omega) (by omega) hb0.size ?_; intro v1 u1 own1 gr1; have hb1 := app_below hb0 hb0.size own0 (Nat.le_refl _) gr1; clear gr1)
    | (at_builtin; refine wpList_app _ rfl (.tmp 46) (.tmp 47) 34 rfl w4.heap.size 42 i0 _ 3 40 Try.underlying34 hi0 hz0 hz1 hz2 rfl (by omega) _ (0 + b.length) ([] ++ flt bvc b) rfl own1 mA m.length mC (flt bvc m) rfl (flt_len bvc_len m) (bds_src (HN.out.below hb1)) (flt_one bvc_one m) (by unfold maxLen; omega) (by omega) hb1.size ?_; intro v2 u2 own2 gr2; have hb2 := app_below hb1 hb1.size own1 (Nat.le_refl _) gr2; replace p0 := keepc hb2 p0; replace p1 := keepc hb2 p1; replace p2 := keepc hb2 p2; clear gr2))
  have hb := hb2
  clear hb2 hb1 hb0 own0
  rw [List.nil_append, flt_app] at own2
  replace HT := Lib.hid (HT.out.below hb)
  replace HM := Lib.hid (HM.out.below hb)
  replace HN := Lib.hid (HN.out.below hb)
  obtain ⟨xA, xC, rfl, _, _, _, hxs⟩ := own_bds own2 (sls_app HM.out HN.out)
  have HS := Lib.hid hxs
  clear own2 own1 hxs
  replace HB := Lib.hid (on_below HB.out hb)
  clear hb
  have lp := block_lt p0
  go_wp2_with fail
  with_reducible refine (C1.out _ HT.out HM.out).mono ?_
  rintro e_ w5 ⟨g, rfl, hs1, hb⟩
  replace HB := Lib.hid (on_below HB.out hb)
  replace HT := Lib.hid (HT.out.below hb)
  replace HM := Lib.hid (HM.out.below hb)
  replace HN := Lib.hid (HN.out.below hb)
  replace HS := Lib.hid (HS.out.below hb)
  replace p0 := keepc hb p0
  replace p1 := keepc hb p1
  replace p2 := keepc hb p2
  replace lp := Nat.lt_of_lt_of_le lp hb.size
  clear hb
  have HL := Lib.hid hs1
  clear hs1
  go_wp2_with fail
  with_reducible refine (C2.out _ _ _ HT.out HS.out).mono ?_
  rintro e_ w6 ⟨g2, rfl, hs2, hb⟩
  replace HB := Lib.hid (on_below HB.out hb)
  replace HT := Lib.hid (HT.out.below hb)
  replace HM := Lib.hid (HM.out.below hb)
  replace HN := Lib.hid (HN.out.below hb)
  replace HS := Lib.hid (HS.out.below hb)
  replace HL := Lib.hid (HL.out.below hb)
  replace p0 := keepc hb p0
  replace p1 := keepc hb p1
  replace p2 := keepc hb p2
  replace lp := Nat.lt_of_lt_of_le lp hb.size
  clear hb
  have HK := Lib.hid hs2
  clear hs2
  go_wp2_with fail
  go_loopw [9, 88] (fun u i wr => ∃ k : Nat, k ≤ t.length ∧ i = .int .i64 k ∧ u = .bool true ∧ Below w6.heap.size w6 wr) (fun _ i _ => t.length - (intOf i).toNat)
  case atStart => exact ⟨0, Nat.zero_le _, rfl, rfl, Below.refl _ _⟩
  case round =>
    obtain ⟨k, hk, rfl, rfl, hW⟩ := hrel
    have kb : (k : Int) ≤ 102 := by omega
    have w1_ : IntKind.i64.wrap ((k : Int) + 1) = (k : Int) + 1 := wrp1 ⟨by omega, by omega⟩
    have w2_ : wrap64 ((k : Int) + 1) = (k : Int) + 1 := wrp2 ⟨by omega, by omega⟩
    by_cases hlt : k < t.length
    · obtain ⟨b0, o0, e4, e0, e1, e2, e3⟩ := HL.out.below hW k (by rw [lns_len]; exact hlt)
      obtain ⟨rfl, rfl⟩ : g = b0 ∧ 0 = o0 := by simpa using e4
      obtain ⟨b1, o1, f4, f0, f1, f2, f3⟩ := HK.out.below hW k (by rw [lns_len]; exact hlt)
      obtain ⟨rfl, rfl⟩ : g2 = b1 ∧ 0 = o1 := by simpa using f4
      have e5 : (k : Int) < t.length := Int.ofNat_lt.2 hlt
      have HQ := Lib.hid (HX.out k hlt)
      have HW := Lib.hid hW
      clear hW e4 f4
      simp only [Nat.zero_add] at e0 e1 e2 e3 f0 f1 f2 f3
      generalize gd4 (lns ex ey ez t b) k = u at *
      generalize gd4 (lns ex ey ez t (b ++ m)) k = v at *
      obtain ⟨ua, ub, uc, ud⟩ := u
      obtain ⟨va, vb, vc, vd⟩ := v
      dsimp only at e0 e1 e2 e3 f0 f1 f2 f3 HQ
      have ho := below_new wr (.cells #[.int .i64 ua, .int .i64 ub, .int .i64 uc, .int .i64 ud] 70)
      have n0 : World.cell? (wr.alloc (.cells #[.int .i64 ua, .int .i64 ub, .int .i64 uc, .int .i64 ud] 70)) ⟨wr.heap.size, 0, none⟩ = some (.int .i64 ua) := by simp [go_sem]
      have n1 : World.cell? (wr.alloc (.cells #[.int .i64 ua, .int .i64 ub, .int .i64 uc, .int .i64 ud] 70)) ⟨wr.heap.size, 1, none⟩ = some (.int .i64 ub) := by simp [go_sem]
      have n2 : World.cell? (wr.alloc (.cells #[.int .i64 ua, .int .i64 ub, .int .i64 uc, .int .i64 ud] 70)) ⟨wr.heap.size, 2, none⟩ = some (.int .i64 uc) := by simp [go_sem]
      have n3 : World.cell? (wr.alloc (.cells #[.int .i64 ua, .int .i64 ub, .int .i64 uc, .int .i64 ud] 70)) ⟨wr.heap.size, 3, none⟩ = some (.int .i64 ud) := by simp [go_sem]
      have m0 := keepc ho f0
      have m1 := keepc ho f1
      have m2 := keepc ho f2
      have m3 := keepc ho f3
      have HO := Lib.hid ho
      clear ho
      rcases HQ.out with ⟨q1, q2⟩ | ⟨q1, q2 | ⟨q2, q3⟩⟩
      · have y1 : (ub != -1) = true := by simp [q1]
        simp only [Q4.mk.injEq] at q2
        obtain ⟨rfl, rfl, rfl, rfl⟩ := q2
        have er := eqr va vb vc vd
        clear HQ q1
        go_wp2_with fail
        generalize wr.alloc (.cells #[.int .i64 va, .int .i64 vb, .int .i64 vc, .int .i64 vd] 70) = wz at *
        go_quiet (fail)
        go_wp2_with fail
        go_roundw
        case rel => exact ⟨k + 1, hlt, int_of (by first | rfl | exact w1_ | exact w2_), rfl, below_drewN' (HW.out.trans (HO.out.mono HW.out.size)) _⟩
        case measure => simp [intOf, w1_, w2_]; clear w1_ w2_; omega
      · have y1 : (ub != -1) = false := by simp [q1]
        have y2 : (ub == -1) = true := by simp [q1]
        have y3 : (vb == -1) = true := by simp [q2]
        clear HQ q1 q2
        go_wp2_with fail
        generalize wr.alloc (.cells #[.int .i64 ua, .int .i64 ub, .int .i64 uc, .int .i64 ud] 70) = wz at *
        go_quiet (fail)
        go_wp2_with fail
        go_roundw
        case rel => exact ⟨k + 1, hlt, int_of (by first | rfl | exact w1_ | exact w2_), rfl, below_drewN' (HW.out.trans (HO.out.mono HW.out.size)) _⟩
        case measure => simp [intOf, w1_, w2_]; clear w1_ w2_; omega
      · have y1 : (ub != -1) = false := by simp [q1]
        have y2 : (ub == -1) = true := by simp [q1]
        have y3 : (vb == -1) = false := by simp [q2]
        have y4 : decide ((b.length : Int) ≤ vb) = true := decide_eq_true q3
        clear HQ q1 q2 q3
        go_wp2_with fail
        generalize wr.alloc (.cells #[.int .i64 ua, .int .i64 ub, .int .i64 uc, .int .i64 ud] 70) = wz at *
        go_quiet (fail)
        go_wp2_with fail
        go_roundw
        case rel => exact ⟨k + 1, hlt, int_of (by first | rfl | exact w1_ | exact w2_), rfl, below_drewN' (HW.out.trans (HO.out.mono HW.out.size)) _⟩
        case measure => simp [intOf, w1_, w2_]; clear w1_ w2_; omega
    · have hke : k = t.length := Nat.le_antisymm hk (Nat.le_of_not_lt hlt)
      subst hke
      clear w1_ w2_
      have hb := hW
      clear hW
      replace HB := Lib.hid (on_below HB.out hb)
      replace HT := Lib.hid (HT.out.below hb)
      replace HM := Lib.hid (HM.out.below hb)
      replace HN := Lib.hid (HN.out.below hb)
      replace HS := Lib.hid (HS.out.below hb)
      replace HL := Lib.hid (HL.out.below hb)
      replace HK := Lib.hid (HK.out.below hb)
      replace p0 := keepc hb p0
      replace p1 := keepc hb p1
      replace p2 := keepc hb p2
      replace lp := Nat.lt_of_lt_of_le lp hb.size
      clear hb
      go_wp2_with fail
      with_reducible refine (D1.out _ _ HT.out HL.out).mono ?_
      rintro e_ w7 ⟨rfl, hb⟩
      replace HB := Lib.hid (on_below HB.out hb)
      replace HT := Lib.hid (HT.out.below hb)
      replace HM := Lib.hid (HM.out.below hb)
      replace HN := Lib.hid (HN.out.below hb)
      replace HS := Lib.hid (HS.out.below hb)
      replace HL := Lib.hid (HL.out.below hb)
      replace HK := Lib.hid (HK.out.below hb)
      replace p0 := keepc hb p0
      replace p1 := keepc hb p1
      replace p2 := keepc hb p2
      replace lp := Nat.lt_of_lt_of_le lp hb.size
      clear hb
      go_wp2_with fail
      have s0 : World.cell? (w7.alloc (.cells #[.int .i64 sn, .int .i64 sd] 39)) ⟨w7.heap.size, 0, none⟩ = some (.int .i64 sn) := by simp [go_sem]
      have s1 : World.cell? (w7.alloc (.cells #[.int .i64 sn, .int .i64 sd] 39)) ⟨w7.heap.size, 1, none⟩ = some (.int .i64 sd) := by simp [go_sem]
      have ls : w7.heap.size < (w7.alloc (.cells #[.int .i64 sn, .int .i64 sd] 39)).heap.size := by simp
      have hb : Below w7.heap.size w7 (w7.alloc (.cells #[.int .i64 sn, .int .i64 sd] 39)) := below_new _ _
      generalize w7.alloc (.cells #[.int .i64 sn, .int .i64 sd] 39) = w8 at *
      replace HB := Lib.hid (on_below HB.out hb)
      replace HT := Lib.hid (HT.out.below hb)
      replace HM := Lib.hid (HM.out.below hb)
      replace HN := Lib.hid (HN.out.below hb)
      replace HS := Lib.hid (HS.out.below hb)
      replace HL := Lib.hid (HL.out.below hb)
      replace HK := Lib.hid (HK.out.below hb)
      replace p0 := keepc hb p0
      replace p1 := keepc hb p1
      replace p2 := keepc hb p2
      replace lp := Nat.lt_of_lt_of_le lp hb.size
      clear hb
      generalize w7.heap.size = gs at *
      with_reducible refine (D2.out _ _ HT.out HK.out).mono ?_
      rintro e_ w9 ⟨rfl, hb⟩
      replace HB := Lib.hid (on_below HB.out hb)
      replace HT := Lib.hid (HT.out.below hb)
      replace HM := Lib.hid (HM.out.below hb)
      replace HN := Lib.hid (HN.out.below hb)
      replace HS := Lib.hid (HS.out.below hb)
      replace HL := Lib.hid (HL.out.below hb)
      replace HK := Lib.hid (HK.out.below hb)
      replace p0 := keepc hb p0
      replace p1 := keepc hb p1
      replace p2 := keepc hb p2
      replace s0 := keepc hb s0
      replace s1 := keepc hb s1
      replace lp := Nat.lt_of_lt_of_le lp hb.size
      replace ls := Nat.lt_of_lt_of_le ls hb.size
      clear hb
      go_wp2_with fail
      have r0 : World.cell? (w9.alloc (.cells #[.int .i64 tn, .int .i64 td] 39)) ⟨w9.heap.size, 0, none⟩ = some (.int .i64 tn) := by simp [go_sem]
      have r1 : World.cell? (w9.alloc (.cells #[.int .i64 tn, .int .i64 td] 39)) ⟨w9.heap.size, 1, none⟩ = some (.int .i64 td) := by simp [go_sem]
      have lr : w9.heap.size < (w9.alloc (.cells #[.int .i64 tn, .int .i64 td] 39)).heap.size := by simp
      have hb : Below w9.heap.size w9 (w9.alloc (.cells #[.int .i64 tn, .int .i64 td] 39)) := below_new _ _
      generalize w9.alloc (.cells #[.int .i64 tn, .int .i64 td] 39) = w10 at *
      replace HB := Lib.hid (on_below HB.out hb)
      replace HT := Lib.hid (HT.out.below hb)
      replace HM := Lib.hid (HM.out.below hb)
      replace HN := Lib.hid (HN.out.below hb)
      replace HS := Lib.hid (HS.out.below hb)
      replace HL := Lib.hid (HL.out.below hb)
      replace HK := Lib.hid (HK.out.below hb)
      replace p0 := keepc hb p0
      replace p1 := keepc hb p1
      replace p2 := keepc hb p2
      replace s0 := keepc hb s0
      replace s1 := keepc hb s1
      replace lp := Nat.lt_of_lt_of_le lp hb.size
      replace ls := Nat.lt_of_lt_of_le ls hb.size
      clear hb
      generalize w9.heap.size = gr at *
      with_reducible refine (K1.out _).mono ?_
      rintro e_ w11 ⟨rfl, hb⟩
      replace HB := Lib.hid (on_below HB.out hb)
      replace HT := Lib.hid (HT.out.below hb)
      replace HM := Lib.hid (HM.out.below hb)
      replace HN := Lib.hid (HN.out.below hb)
      replace HS := Lib.hid (HS.out.below hb)
      replace HL := Lib.hid (HL.out.below hb)
      replace HK := Lib.hid (HK.out.below hb)
      replace p0 := keepc hb p0
      replace p1 := keepc hb p1
      replace p2 := keepc hb p2
      replace s0 := keepc hb s0
      replace s1 := keepc hb s1
      replace r0 := keepc hb r0
      replace r1 := keepc hb r1
      replace lp := Nat.lt_of_lt_of_le lp hb.size
      replace ls := Nat.lt_of_lt_of_le ls hb.size
      replace lr := Nat.lt_of_lt_of_le lr hb.size
      clear hb
      go_wp2_with fail
      go_ret
      exact ⟨rfl, HB.out⟩
theorem fr_of {ex ey ez : Int} {T : List Q4} {b : List Bv} (hl : T.length ≤ 60) (ht : Tok T) : Fr (ssum T (lns ex ey ez T b) T.length) (wsum T T.length) (mkN (ssum T (lns ex ey ez T b) T.length) (wsum T T.length)) (mkD (ssum T (lns ex ey ez T b) T.length) (wsum T T.length)) := by
  obtain ⟨h1, h2, h3, h4⟩ := sum_bd (N := lns ex ey ez T b) ht T.length (Nat.le_refl _)
  have := ht.1
  exact fr_mk (by omega) (by omega) ⟨h1, h2⟩
theorem law_any (ex ey ez : Int) (tA : Option Addr) (tC : Nat) (t : List Q4) (bA : Option Addr) (bC : Nat) (b : List Bv) (mA : Option Addr) (mC : Nat) (m : List Bv) (w : World) (lt : L4 w tA tC t) (lb : LB w bA bC b) (lm : LB w mA mC m) :
    Calls Try.prog 10 #[.agg #[.int .i64 ex, .int .i64 ey, .int .i64 ez], .slice tA t.length tC, .slice bA b.length bC, .slice mA m.length mC] w fun e_ w' => e_ = .returned (.bool true) ∧ Below w.heap.size w w' := by
  have h4 : t.length ≤ 9223372036854775807 := Nat.le_trans lt.cap.1 lt.cap.2
  have h5 : b.length ≤ 9223372036854775807 := Nat.le_trans lb.cap.1 lb.cap.2
  have h7 : m.length ≤ 9223372036854775807 := Nat.le_trans lm.cap.1 lm.cap.2
  have h6 := lb.len
  have h8 := lm.len
  by_cases hf : Few t.length b
  · by_cases hg : Few 0 m
    · by_cases h0 : b.length ≤ 6
      · by_cases h1 : m.length ≤ 6
        · obtain ⟨E, hE⟩ := wrg_ex ex ey ez t b
          obtain ⟨G, hG⟩ := wrg_ex ex ey ez t (b ++ m)
          by_cases hz : E = 0
          · by_cases hy : G = 0
            · subst hz hy
              obtain ⟨k1, k2, k3⟩ := wrg_zero hE
              have hl : t.length ≤ 60 := by have := hf.1; omega
              have f1 := fr_of (ex := ex) (ey := ey) (ez := ez) (b := b) hl k1
              have f2 := fr_of (ex := ex) (ey := ey) (ez := ez) (b := b ++ m) hl k1
              have hmn := ssum_mono (ex := ex) (ey := ey) (ez := ez) (L := b) (M := m) k1 t.length (Nat.le_refl _)
              have hq := f1.q0
              have hs := fr_sgn f2 f1
              have hc : sgn (ssum t (lns ex ey ez t (b ++ m)) t.length * wsum t t.length) (ssum t (lns ex ey ez t b) t.length * wsum t t.length) ≤ 0 := by
                have := Int.mul_le_mul_of_nonneg_right hmn (Int.le_of_lt hq)
                unfold sgn
                split
                · omega
                · rw [if_neg (by omega)]; exact Int.le_refl _
              exact bod_6 ex ey ez tA tC t bA bC b mA mC m h4 h5 h7 h6 h8 hf hg h0 h1 hE hG _ _ _ _ _ (Or.inr (Or.inr ⟨hl, k1, lns_num _ _ _ _ _, rfl, rfl, rfl⟩)) (Or.inr (Or.inr ⟨hl, k1, lns_num _ _ _ _ _, rfl, rfl, rfl⟩)) f1.v f2.v hs hc w lt.sl lb.sl lm.sl
            · subst hz
              exact bod_5 ex ey ez tA tC t bA bC b mA mC m h4 h5 h7 h6 h8 hf hg h0 h1 G hE hG hy w lt.sl lb.sl lm.sl
          · exact bod_4 ex ey ez tA tC t bA bC b mA mC m h4 h5 h7 h6 h8 hf hg h0 h1 E G hE hG hz (wrg_app hE hG hz) w lt.sl lb.sl lm.sl
        · exact bod_3 ex ey ez tA tC t bA bC b mA mC m h4 h5 h7 h6 h8 hf hg h0 (by omega) w lt.sl lb.sl lm.sl
      · exact bod_2 ex ey ez tA tC t bA bC b mA mC m h4 h5 h7 h6 h8 hf hg (by omega) w lt.sl lb.sl lm.sl
    · exact bod_1 ex ey ez tA tC t bA bC b mA mC m h4 h5 h7 h6 h8 hf hg w lt.sl lb.sl lm.sl
  · exact bod_0 ex ey ez tA tC t bA bC b mA mC m h4 h5 h7 h6 h8 hf w lt.sl lb.sl lm.sl
/-! ### The row -/
open Go.ChangeShapes Go.WideShapes Go.ChangeAt Go.Joins
theorem own : ownKnob Try.prog.godebug = none := by kernel_rfl
noncomputable def laidWorld (os : Os) : World := World.holding Try.prog os ⟨#[], #[], []⟩
theorem laidWorld_met (os : Os) (args : Array Value) : laidMet Try.prog [] ((laidWorld os).forCall (fun _ _ => 0) ⟨#[], args, []⟩).memory :=
  laidMet_of_run' 8 (by kernel_rfl) (by kernel_rfl)

set_option maxRecDepth 100000 in
theorem contract (H : Type) (enc : TypeId × Value → H) (W : World) (base : Nat) (args : Array Value) (ds gs : List (DataW H)) (before : List MemPlace)
    (hval : ∀ (j : Nat) t v, Try.f10.params[j]? = some t → args[j]? = some v → Value.okWide Try.prog W .any base t v)
    (hW : DataW.Whole enc Try.prog Try.f10.params.toList Rows.sightBodiesSpec.vars false W args.toList ds gs before) :
    Calls Try.prog 10 args W fun e W' => ∃ v, e = .returned v ∧ Rows.sightBodiesSpec.post enc Try.prog Try.f10 false true false false W args v W' := by
  have hW' := hW
  have hold : ∀ q ∈ before, decide (q.block < W.heap.size) = true := fun q hq => by simpa using hW.lt q hq
  obtain ⟨p, q, hA0, hV, rfl, hfz, hnd⟩ := hW
  have hA : DataW.TrodAll enc Try.prog W 0 (fun _ => true) true Try.f10.params.toList args.toList ds p := hA0
  rw [Try.params10] at hA hval
  obtain ⟨v0, vs0, d0, ds0, p0, q0, hargs, rfl, rfl, h0, r0⟩ := trodAll_cons hA
  obtain ⟨v1, vs1, d1, ds1, p1, q1, rfl, rfl, rfl, h1, r1⟩ := trodAll_cons r0
  obtain ⟨v2, vs2, d2, ds2, p2, q2, rfl, rfl, rfl, h2, r2⟩ := trodAll_cons r1
  obtain ⟨v3, vs3, d3, ds3, p3, q3, rfl, rfl, rfl, h3, r3⟩ := trodAll_cons r2
  obtain ⟨rfl, rfl, rfl⟩ := trodAll_nil r3
  obtain rfl : args = #[v0, v1, v2, v3] := Array.toList_inj.1 hargs
  obtain ⟨rfl, rfl⟩ := trodVars_none hV
  obtain ⟨ex, ey, ez, rfl, rfl, rfl, iex, iey, iez⟩ := open_vec (hval 0 27 v0 rfl rfl) h0
  obtain ⟨tA, tC, t, rfl, lt, shutt⟩ := open_targets (hval 1 57 v1 rfl rfl) h1
  obtain ⟨bA, bC, b, rfl, lb, shutb⟩ := open_bodies (hval 2 34 v2 rfl rfl) h2
  obtain ⟨mA, mC, m, rfl, lm, shutm⟩ := open_bodies (hval 3 34 v3 rfl rfl) h3
  clear hA0
  refine (law_any ex ey ez tA tC t bA bC b mA mC m W lt lb lm).mono fun e W' ⟨he, bel⟩ => ?_
  subst he
  exact ⟨_, rfl, _, _, _, [], _, [], hW', trodAll_mk1 (shut_bool Try.underlying4 _), (trodAll_cons_mk (shut_vec iex iey iez) (trodAll_cons_mk (shutt W' (fun b => decide (b < W.heap.size)) bel (fun q hq => hold q (by simp [hq]))) (trodAll_cons_mk (shutb W' (fun b => decide (b < W.heap.size)) bel (fun q hq => hold q (by simp [hq]))) (trodAll_cons_mk (shutm W' (fun b => decide (b < W.heap.size)) bel (fun q hq => hold q (by simp [hq]))) trodAll_mk0)))), rfl, bel.frame _, fun h => by cases h⟩

theorem reads (os : Os) {H : Type} (enc : TypeId × Value → H) : ∃ places, DataW.whole enc Try.prog ((laidWorld os).forCall (fun _ _ => 0) ⟨#[], #[.agg #[.int .i64 0, .int .i64 0, .int .i64 0], .slice none 0 0, .slice none 0 0, .slice none 0 0], []⟩).memory Try.f10.params.toList Rows.sightBodiesSpec.vars false (#[.agg #[.int .i64 0, .int .i64 0, .int .i64 0], .slice none 0 0, .slice none 0 0, .slice none 0 0] : Array Value).toList 8 = some ([.agg [.lit (.int .i64 0), .lit (.int .i64 0), .lit (.int .i64 0)], .nil, .nil, .nil], [], places) :=
  ⟨[], by kernel_rfl⟩

set_option maxRecDepth 100000 in
theorem lifted (os : Os) (started : os.Started) (H : Type) (enc : TypeId × Value → H) (F : Stop.Interp) :
    ReturnsInHanded {} Try.checked os 10 .any ((OpenSpec.ofChange Rows.sightBodiesSpec).preRow enc Try.prog Try.f10 Rows.sightBodiesRow.domain false Rows.sightBodiesRow.laid) (((OpenSpec.ofChange Rows.sightBodiesSpec).at F).post enc Try.prog Try.f10 false true false false) := by
  obtain ⟨places, hx⟩ := reads os enc
  refine returnsInHanded_of_row (C := Try.checked) (s := OpenSpec.ofChange Rows.sightBodiesSpec) own started (by kernel_rfl) Try.func10
    (witness_row_atRef (enc := enc) (C := Try.checked) false (laidWorld os) #[.agg #[.int .i64 0, .int .i64 0, .int .i64 0], .slice none 0 0, .slice none 0 0, .slice none 0 0] rfl (by kernel_rfl) (by kernel_rfl) (by kernel_rfl)
      (OpenSpec.preRow_of_cond 8 hx (by kernel_rfl) (fun k hk => by cases hk) (by kernel_rfl) (laidWorld_met os _))) ?_
  intro W base args ds gs before hval hW _ hcond _ hL hsh _
  exact contract H enc W base args ds gs before hval hW

/-- The statement. -/
theorem said : Rows.SightBodiesSaid :=
  OpenClaim.holds_of_cond 10 Try.f10 rfl rfl rfl rfl rfl rfl rfl ⟨rfl, rfl, rfl, rfl, rfl⟩ rfl rfl rfl rfl rfl (by kernel_rfl) Try.func10 (by kernel_rfl)
    (of_decide_eq_true (by kernel_rfl)) (by unfold Func.isWrapper; first | (rw [if_pos (by decide +kernel)]; kernel_rfl) | (rw [if_neg (by decide +kernel)]; exact ⟨rfl, rfl⟩))
    (fun os started H enc _ F => by rw [OpenClaim.pre_eq_preRow]; exact lifted os started H enc F)
end Go.Proofs.Ytjjimbaogpmbmaa.LawBodies
