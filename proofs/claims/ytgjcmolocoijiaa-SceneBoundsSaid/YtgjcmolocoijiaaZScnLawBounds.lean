/-
  SceneBounds.
-/
import Derived.Test.YtgjcmolocoijiaaZScnZX
import Derived.Test.YtgjcmolocoijiaaRows
import Derived.ProofKit
import Derived.OpenShut
import Derived.Deep.DeepHandedRow
import Derived.Deep.DeepWitnessRowRef
import Derived.MakeChecks
import Derived.Deep.DeepCutAuto
import Derived.Test.YtgjcmolocoijiaaZGenE
import Derived.Deep.QuietTactic
import Derived.BigQuiet
namespace Go.Proofs.Ytgjcmolocoijiaa.LawBounds
open Go.RowKit Go.Sort
open Go.RowKit (Below)
set_option linter.unusedVariables false
set_option linter.unusedSimpArgs false
attribute [local go_sem] Oper.semAt_some

section
variable {T : List Bv} {M : List Sv} {ex ey ez : Int} {Q : List Bv} {n d : Int}
/-- What a share is, and how it compares. -/
def Brow (L : List (Int × Int)) (n d : Int) (sj : Nat → Int) (k : Nat) : Prop :=
  ∃ a b, gdS L k = (a, b) ∧ (1 ≤ b ∧ b ≤ 100) ∧ Int.tmod 100 b = 0 ∧ (0 ≤ a ∧ a ≤ b) ∧ vld a b = true ∧ sgn (a * d) (n * b) = sj k ∧ (sj k = -1 ∨ sj k = 0 ∨ sj k = 1)
theorem sgn_three (x y : Int) : sgn x y = -1 ∨ sgn x y = 0 ∨ sgn x y = 1 := by
  unfold sgn
  split
  · exact Or.inl rfl
  · split
    · exact Or.inr (Or.inr rfl)
    · exact Or.inr (Or.inl rfl)
theorem bnd_all (h : TotR T M ex ey ez Q n d 0) : ∃ sj : Nat → Int, (∀ k, k < M.length → Brow (shl ex ey ez T M Q) n d sj k) ∧ ¬ (∀ k, k < M.length → 0 < sj k) ∧ ¬ (∀ k, k < M.length → sj k < 0) := by
  obtain ⟨v1, hok, hlm, ht, hm, e1, e2⟩ := tot_vld h
  have hsco := hok.1.2.2.2.2
  refine ⟨fun k => sgn (shn ex ey ez T Q (gdV M k) * (100 * msum M M.length)) (tsum (shn ex ey ez T Q) M M.length * 100), fun k hk => ?_, fun hA => ?_, fun hA => ?_⟩
  · obtain ⟨c0, c1⟩ := shn_bd ex ey ez T Q (hsco k hk).2.2.1
    generalize hc : shn ex ey ez T Q (gdV M k) = c at *
    obtain ⟨b0, b1, hb⟩ := q_bd2 (a := c) (b := 100) (by omega)
    obtain ⟨a0, a1⟩ := hb c0
    have hv := q_val c 100
    refine ⟨qN c 100, qD c 100, by rw [shl_at hk, hc], ⟨by omega, b1⟩, ?_, ⟨a0, ?_⟩, q_vld (by omega) ⟨by omega, by omega⟩ (by omega), ?_, sgn_three _ _⟩
    · rw [Int.tmod_eq_emod_of_nonneg (by omega)]
      exact Int.emod_eq_zero_of_dvd ⟨gq c 100, (qD_mul c 100).symm⟩
    · have : c * qD c 100 ≤ 100 * qD c 100 := Int.mul_le_mul_of_nonneg_right c1 (by omega)
      omega
    · rw [← e1, ← e2, sgn_q (by omega) (by omega)]
      show _ = sgn (shn ex ey ez T Q (gdV M k) * _) _
      rw [hc]
  · have := avg_lt (f := shn ex ey ez T Q) (N := M) (a := msum M M.length) (b := tsum (shn ex ey ez T Q) M M.length) (fun k hk => (hsco k hk).1) (fun k hk => ?_) M.length (Nat.le_refl _) hok.1.1
    · rw [Int.mul_comm] at this; omega
    · have h2 := hA k hk
      simp only [sgn] at h2
      split at h2
      · omega
      · split at h2
        · rename_i h3
          have e : shn ex ey ez T Q (gdV M k) * (100 * msum M M.length) = shn ex ey ez T Q (gdV M k) * msum M M.length * 100 := by grind
          omega
        · omega
  · have := avg_gt (f := shn ex ey ez T Q) (N := M) (a := msum M M.length) (b := tsum (shn ex ey ez T Q) M M.length) (fun k hk => (hsco k hk).1) (fun k hk => ?_) M.length (Nat.le_refl _) hok.1.1
    · rw [Int.mul_comm] at this; omega
    · have h2 := hA k hk
      simp only [sgn] at h2
      split at h2
      · rename_i h3
        have e : shn ex ey ez T Q (gdV M k) * (100 * msum M M.length) = shn ex ey ez T Q (gdV M k) * msum M M.length * 100 := by grind
        omega
      · split at h2 <;> omega
theorem all_step {P : Nat → Prop} {k : Nat} {x c : Bool} (h : x = true ↔ ∀ j, j < k → P j) (hc : c = true ↔ P k) : (x && c) = true ↔ ∀ j, j < k + 1 → P j := by
  rw [Bool.and_eq_true, h, hc]
  constructor
  · rintro ⟨a, b⟩ j hj
    by_cases e : j = k
    · subst e; exact b
    · exact a j (by omega)
  · exact fun a => ⟨fun j hj => a j (by omega), a k (by omega)⟩
end
set_option maxRecDepth 100000 in
set_option maxHeartbeats 4000000 in
theorem bnd_0 (SA : Option Addr) (SC : Nat) (S : List Bv) (NA : Option Addr) (NC : Nat) (N : List Sv) (ex ey ez : Int) (OA : Option Addr) (OC : Nat) (O : List Bv) (T : List Bv) (M : List Sv) (Q : List Bv) (hX : Cutx S N O T M Q) (E : Int) (hE : ScE T M ex ey ez Q E) (h0 : E ≠ 0) (w : World) (lS : LC w SA SC S) (lN : LV w NA NC N) (lO : LC w OA OC O) :
    Calls Try.prog 3 #[.agg #[.slice SA S.length SC, .slice NA N.length NC], .agg #[.int .i64 ex, .int .i64 ey, .int .i64 ez], .slice OA O.length OC] w fun e_ w' => e_ = .returned (.bool true) ∧ Below w.heap.size w w' := by
  have CS := Lib.hid (fun B D BQ DQ W (a : SvS W B M) (b : BdS W SA T) (c : BdS W BQ Q) => shares_0 SA SC T B D M ex ey ez BQ DQ Q hX.sml (by have := hX.ql; omega) E hE h0 W a b c)
  have CT := Lib.hid (fun B D BQ DQ W (a : SvS W B M) (b : BdS W SA T) (c : BdS W BQ Q) => total_is SA SC T B D M ex ey ez BQ DQ Q hX.sml (by have := hX.ql; omega) 0 0 E (Or.inl ⟨h0, hE, rfl, rfl⟩) W a b c)
  have z0 : (E != 0) = true := by simp [h0]
  have z1 : (E == E) = true := by simp
  have e9 := fun W => rat_eq (a := 0) (b := 0) (x := 0) (y := 0) (r := true) (by decide) W
  clear hE h0
  have CF := Lib.hid (fun W (h : SvS W NA N) => few11_is SA SC S NA NC N lS.cap (Nat.le_trans lN.cap.1 lN.cap.2) lN.ca M hX.m T.length (by rw [hX.t]) W h)
  have CQ := Lib.hid (fun W (h : BdS W OA O) => cut_is OA OC O (Nat.le_trans lO.cap.1 lO.cap.2) lO.ca Q hX.q W h)
  have HS := Lib.hid (show BdS w SA T from hX.t ▸ lS.sl.take 6)
  have HN := Lib.hid lN.sl
  have HO := Lib.hid lO.sl
  have hTl := hX.tl
  have hMl := hX.ml
  have hQl := hX.ql
  clear lS lN lO hX
  go_enter Try.func3, Try.ntmps3
  go_wp2_with fail
  obtain ⟨w1, hw1⟩ : ∃ V, ((w.alloc (.cells #[.slice SA S.length SC, .slice NA N.length NC] 25)).alloc (.cells #[.int .i64 ex, .int .i64 ey, .int .i64 ez] 27)) = V := ⟨_, rfl⟩
  obtain ⟨hB_, kp, ke⟩ := boxes2 _ _ _ hw1
  rw [hw1]
  clear hw1
  have HB := Lib.hid hB_
  clear hB_
  have p0 := (two_cells kp).1
  have p1 := (two_cells kp).2.1
  have lp := block_lt p0
  have e0 := (cells3 ke).1
  have e1 := (cells3 ke).2.1
  have e2 := (cells3 ke).2.2
  have le := block_lt e0
  with_reducible refine (head11_any _).mono ?_
  rintro e_ w2 ⟨rfl, hb⟩
  replace HB := Lib.hid (on_below HB.out hb)
  replace p0 := keepc hb p0
  replace p1 := keepc hb p1
  replace e0 := keepc hb e0
  replace e1 := keepc hb e1
  replace e2 := keepc hb e2
  replace kp := blk_on kp hb
  replace ke := blk_on ke hb
  replace lp := Nat.lt_of_lt_of_le lp hb.size
  replace le := Nat.lt_of_lt_of_le le hb.size
  clear hb
  go_wp2_with fail
  with_reducible refine (CF.out _ (HN.out.below HB.out)).mono ?_
  rintro e_ w3 ⟨B, ⟨D, rfl⟩, hsv, hb⟩
  replace HB := Lib.hid (on_below HB.out hb)
  replace p0 := keepc hb p0
  replace p1 := keepc hb p1
  replace e0 := keepc hb e0
  replace e1 := keepc hb e1
  replace e2 := keepc hb e2
  replace kp := blk_on kp hb
  replace ke := blk_on ke hb
  replace lp := Nat.lt_of_lt_of_le lp hb.size
  replace le := Nat.lt_of_lt_of_le le hb.size
  clear hb
  have hpx : Pbx w3 w.heap.size := ⟨_, _, _, _, _, _, _, kp⟩
  have fp0 : World.frozen? w3 ⟨w.heap.size, 0, none⟩ = false := by simp [World.frozen?, kp]
  have fp1 : World.frozen? w3 ⟨w.heap.size, 1, none⟩ = false := by simp [World.frozen?, kp]
  go_wp2_with fail
  clear CF fp0 fp1 p0 p1 e0 e1 e2 lp le
  have HV := Lib.hid (show SvS ((w3.setCell ⟨w.heap.size, 0, none⟩ (.slice SA T.length SC)).setCell ⟨w.heap.size, 1, none⟩ (.slice B M.length D)) B M from hsv.far hpx)
  clear hsv hpx
  replace kp : ((w3.setCell ⟨w.heap.size, 0, none⟩ (.slice SA T.length SC)).setCell ⟨w.heap.size, 1, none⟩ (.slice B M.length D)).heap[w.heap.size]? = some (.cells #[.slice SA T.length SC, .slice B M.length D] 25 (0, 0)) := set_cells (set_cells kp 0 _) 1 _
  replace ke : ((w3.setCell ⟨w.heap.size, 0, none⟩ (.slice SA T.length SC)).setCell ⟨w.heap.size, 1, none⟩ (.slice B M.length D)).heap[w.heap.size + 1]? = _ := blk_far (blk_far ke (by omega)) (by omega)
  replace HB := Lib.hid (show Below w.heap.size w ((w3.setCell ⟨w.heap.size, 0, none⟩ (.slice SA T.length SC)).setCell ⟨w.heap.size, 1, none⟩ (.slice B M.length D)) from (HB.out.setCell (by simp <;> omega) _).setCell (by simp <;> omega) _)
  generalize ((w3.setCell ⟨w.heap.size, 0, none⟩ (.slice SA T.length SC)).setCell ⟨w.heap.size, 1, none⟩ (.slice B M.length D)) = w4 at *
  have p0 := (two_cells kp).1
  have p1 := (two_cells kp).2.1
  have lp := block_lt p0
  have e0 := (cells3 ke).1
  have e1 := (cells3 ke).2.1
  have e2 := (cells3 ke).2.2
  have le := block_lt e0
  with_reducible refine (CQ.out _ (HO.out.below HB.out)).mono ?_
  rintro e_ w5 ⟨BQ, ⟨DQ, rfl⟩, hq, hb⟩
  replace HB := Lib.hid (on_below HB.out hb)
  replace HV := Lib.hid (HV.out.below hb)
  replace p0 := keepc hb p0
  replace p1 := keepc hb p1
  replace e0 := keepc hb e0
  replace e1 := keepc hb e1
  replace e2 := keepc hb e2
  replace kp := blk_on kp hb
  replace ke := blk_on ke hb
  replace lp := Nat.lt_of_lt_of_le lp hb.size
  replace le := Nat.lt_of_lt_of_le le hb.size
  clear hb
  clear CQ
  have HQ := Lib.hid hq
  clear hq
  go_wp2_with fail
  with_reducible refine (CS.out B D BQ DQ _ HV.out (HS.out.below HB.out) HQ.out).mono ?_
  rintro e_ w6 ⟨rfl, hb⟩
  replace HB := Lib.hid (on_below HB.out hb)
  replace HV := Lib.hid (HV.out.below hb)
  replace HQ := Lib.hid (HQ.out.below hb)
  replace p0 := keepc hb p0
  replace p1 := keepc hb p1
  replace e0 := keepc hb e0
  replace e1 := keepc hb e1
  replace e2 := keepc hb e2
  replace kp := blk_on kp hb
  replace ke := blk_on ke hb
  replace lp := Nat.lt_of_lt_of_le lp hb.size
  replace le := Nat.lt_of_lt_of_le le hb.size
  clear hb
  go_wp2_with fail
  with_reducible refine (CT.out B D BQ DQ _ HV.out (HS.out.below HB.out) HQ.out).mono ?_
  rintro e_ w7 ⟨rfl, hb⟩
  replace HB := Lib.hid (on_below HB.out hb)
  replace HV := Lib.hid (HV.out.below hb)
  replace HQ := Lib.hid (HQ.out.below hb)
  replace p0 := keepc hb p0
  replace p1 := keepc hb p1
  replace e0 := keepc hb e0
  replace e1 := keepc hb e1
  replace e2 := keepc hb e2
  replace kp := blk_on kp hb
  replace ke := blk_on ke hb
  replace lp := Nat.lt_of_lt_of_le lp hb.size
  replace le := Nat.lt_of_lt_of_le le hb.size
  clear hb
  go_wp2_with fail
  have t0 : World.cell? (w7.alloc (.cells #[.int .i64 0, .int .i64 0] 36)) ⟨w7.heap.size, 0, none⟩ = some (.int .i64 0) := by simp [go_sem]
  have t1 : World.cell? (w7.alloc (.cells #[.int .i64 0, .int .i64 0] 36)) ⟨w7.heap.size, 1, none⟩ = some (.int .i64 0) := by simp [go_sem]
  have lt : w7.heap.size < (w7.alloc (.cells #[.int .i64 0, .int .i64 0] 36)).heap.size := by simp
  have hb : Below w7.heap.size w7 (w7.alloc (.cells #[.int .i64 0, .int .i64 0] 36)) := below_new _ _
  generalize w7.alloc (.cells #[.int .i64 0, .int .i64 0] 36) = w8 at *
  replace HB := Lib.hid (on_below HB.out hb)
  replace HV := Lib.hid (HV.out.below hb)
  replace HQ := Lib.hid (HQ.out.below hb)
  replace p0 := keepc hb p0
  replace p1 := keepc hb p1
  replace e0 := keepc hb e0
  replace e1 := keepc hb e1
  replace e2 := keepc hb e2
  replace kp := blk_on kp hb
  replace ke := blk_on ke hb
  replace lp := Nat.lt_of_lt_of_le lp hb.size
  replace le := Nat.lt_of_lt_of_le le hb.size
  clear hb
  generalize w7.heap.size = gt at *
  go_ret
  exact ⟨rfl, HB.out⟩
set_option maxRecDepth 100000 in
set_option maxHeartbeats 4000000 in
theorem bnd_1 (SA : Option Addr) (SC : Nat) (S : List Bv) (NA : Option Addr) (NC : Nat) (N : List Sv) (ex ey ez : Int) (OA : Option Addr) (OC : Nat) (O : List Bv) (T : List Bv) (M : List Sv) (Q : List Bv) (hX : Cutx S N O T M Q) (n d : Int) (hT : TotR T M ex ey ez Q n d 0) (sj : Nat → Int) (hrow : ∀ k, k < M.length → Brow (shl ex ey ez T M Q) n d sj k) (hno : ¬ (∀ k, k < M.length → 0 < sj k) ∧ ¬ (∀ k, k < M.length → sj k < 0)) (w : World) (lS : LC w SA SC S) (lN : LV w NA NC N) (lO : LC w OA OC O) :
    Calls Try.prog 3 #[.agg #[.slice SA S.length SC, .slice NA N.length NC], .agg #[.int .i64 ex, .int .i64 ey, .int .i64 ez], .slice OA O.length OC] w fun e_ w' => e_ = .returned (.bool true) ∧ Below w.heap.size w w' := by
  have CS := Lib.hid (fun B D BQ DQ W (a : SvS W B M) (b : BdS W SA T) (c : BdS W BQ Q) => shares_1 SA SC T B D M ex ey ez BQ DQ Q hX.sml (by have := hX.ql; omega) (tot_vld hT).2.1 (tot_vld hT).2.2.1 W a b c)
  have CT := Lib.hid (fun B D BQ DQ W (a : SvS W B M) (b : BdS W SA T) (c : BdS W BQ Q) => total_is SA SC T B D M ex ey ez BQ DQ Q hX.sml (by have := hX.ql; omega) n d 0 hT W a b c)
  have HVD := Lib.hid (tot_vld hT).1
  have HND : Hid (I64 n ∧ I64 d) := by
    obtain ⟨h1, h2, h3, h4, _⟩ := (vld_iff n d).1 HVD.out
    exact ⟨⟨by omega, by omega⟩, by omega, by omega⟩
  have hll := shl_len ex ey ez T M Q
  generalize shl ex ey ez T M Q = L at *
  have HLL := Lib.hid hll
  have HR := Lib.hid hrow
  have HNO := Lib.hid hno
  clear hT hll hrow hno
  have CF := Lib.hid (fun W (h : SvS W NA N) => few11_is SA SC S NA NC N lS.cap (Nat.le_trans lN.cap.1 lN.cap.2) lN.ca M hX.m T.length (by rw [hX.t]) W h)
  have CQ := Lib.hid (fun W (h : BdS W OA O) => cut_is OA OC O (Nat.le_trans lO.cap.1 lO.cap.2) lO.ca Q hX.q W h)
  have HS := Lib.hid (show BdS w SA T from hX.t ▸ lS.sl.take 6)
  have HN := Lib.hid lN.sl
  have HO := Lib.hid lO.sl
  have hTl := hX.tl
  have hMl := hX.ml
  have hQl := hX.ql
  clear lS lN lO hX
  go_enter Try.func3, Try.ntmps3
  go_wp2_with fail
  obtain ⟨w1, hw1⟩ : ∃ V, ((w.alloc (.cells #[.slice SA S.length SC, .slice NA N.length NC] 25)).alloc (.cells #[.int .i64 ex, .int .i64 ey, .int .i64 ez] 27)) = V := ⟨_, rfl⟩
  obtain ⟨hB_, kp, ke⟩ := boxes2 _ _ _ hw1
  rw [hw1]
  clear hw1
  have HB := Lib.hid hB_
  clear hB_
  have p0 := (two_cells kp).1
  have p1 := (two_cells kp).2.1
  have lp := block_lt p0
  have e0 := (cells3 ke).1
  have e1 := (cells3 ke).2.1
  have e2 := (cells3 ke).2.2
  have le := block_lt e0
  with_reducible refine (head11_any _).mono ?_
  rintro e_ w2 ⟨rfl, hb⟩
  replace HB := Lib.hid (on_below HB.out hb)
  replace p0 := keepc hb p0
  replace p1 := keepc hb p1
  replace e0 := keepc hb e0
  replace e1 := keepc hb e1
  replace e2 := keepc hb e2
  replace kp := blk_on kp hb
  replace ke := blk_on ke hb
  replace lp := Nat.lt_of_lt_of_le lp hb.size
  replace le := Nat.lt_of_lt_of_le le hb.size
  clear hb
  go_wp2_with fail
  with_reducible refine (CF.out _ (HN.out.below HB.out)).mono ?_
  rintro e_ w3 ⟨B, ⟨D, rfl⟩, hsv, hb⟩
  replace HB := Lib.hid (on_below HB.out hb)
  replace p0 := keepc hb p0
  replace p1 := keepc hb p1
  replace e0 := keepc hb e0
  replace e1 := keepc hb e1
  replace e2 := keepc hb e2
  replace kp := blk_on kp hb
  replace ke := blk_on ke hb
  replace lp := Nat.lt_of_lt_of_le lp hb.size
  replace le := Nat.lt_of_lt_of_le le hb.size
  clear hb
  have hpx : Pbx w3 w.heap.size := ⟨_, _, _, _, _, _, _, kp⟩
  have fp0 : World.frozen? w3 ⟨w.heap.size, 0, none⟩ = false := by simp [World.frozen?, kp]
  have fp1 : World.frozen? w3 ⟨w.heap.size, 1, none⟩ = false := by simp [World.frozen?, kp]
  go_wp2_with fail
  clear CF fp0 fp1 p0 p1 e0 e1 e2 lp le
  have HV := Lib.hid (show SvS ((w3.setCell ⟨w.heap.size, 0, none⟩ (.slice SA T.length SC)).setCell ⟨w.heap.size, 1, none⟩ (.slice B M.length D)) B M from hsv.far hpx)
  clear hsv hpx
  replace kp : ((w3.setCell ⟨w.heap.size, 0, none⟩ (.slice SA T.length SC)).setCell ⟨w.heap.size, 1, none⟩ (.slice B M.length D)).heap[w.heap.size]? = some (.cells #[.slice SA T.length SC, .slice B M.length D] 25 (0, 0)) := set_cells (set_cells kp 0 _) 1 _
  replace ke : ((w3.setCell ⟨w.heap.size, 0, none⟩ (.slice SA T.length SC)).setCell ⟨w.heap.size, 1, none⟩ (.slice B M.length D)).heap[w.heap.size + 1]? = _ := blk_far (blk_far ke (by omega)) (by omega)
  replace HB := Lib.hid (show Below w.heap.size w ((w3.setCell ⟨w.heap.size, 0, none⟩ (.slice SA T.length SC)).setCell ⟨w.heap.size, 1, none⟩ (.slice B M.length D)) from (HB.out.setCell (by simp <;> omega) _).setCell (by simp <;> omega) _)
  generalize ((w3.setCell ⟨w.heap.size, 0, none⟩ (.slice SA T.length SC)).setCell ⟨w.heap.size, 1, none⟩ (.slice B M.length D)) = w4 at *
  have p0 := (two_cells kp).1
  have p1 := (two_cells kp).2.1
  have lp := block_lt p0
  have e0 := (cells3 ke).1
  have e1 := (cells3 ke).2.1
  have e2 := (cells3 ke).2.2
  have le := block_lt e0
  with_reducible refine (CQ.out _ (HO.out.below HB.out)).mono ?_
  rintro e_ w5 ⟨BQ, ⟨DQ, rfl⟩, hq, hb⟩
  replace HB := Lib.hid (on_below HB.out hb)
  replace HV := Lib.hid (HV.out.below hb)
  replace p0 := keepc hb p0
  replace p1 := keepc hb p1
  replace e0 := keepc hb e0
  replace e1 := keepc hb e1
  replace e2 := keepc hb e2
  replace kp := blk_on kp hb
  replace ke := blk_on ke hb
  replace lp := Nat.lt_of_lt_of_le lp hb.size
  replace le := Nat.lt_of_lt_of_le le hb.size
  clear hb
  clear CQ
  have HQ := Lib.hid hq
  clear hq
  go_wp2_with fail
  with_reducible refine (CS.out B D BQ DQ _ HV.out (HS.out.below HB.out) HQ.out).mono ?_
  rintro e_ w6 ⟨gl, rfl, hl, hb⟩
  replace HB := Lib.hid (on_below HB.out hb)
  replace HV := Lib.hid (HV.out.below hb)
  replace HQ := Lib.hid (HQ.out.below hb)
  replace p0 := keepc hb p0
  replace p1 := keepc hb p1
  replace e0 := keepc hb e0
  replace e1 := keepc hb e1
  replace e2 := keepc hb e2
  replace kp := blk_on kp hb
  replace ke := blk_on ke hb
  replace lp := Nat.lt_of_lt_of_le lp hb.size
  replace le := Nat.lt_of_lt_of_le le hb.size
  clear hb
  generalize (some (⟨gl, 0, none⟩ : Addr)) = lA at *
  have HL := Lib.hid hl
  clear hl
  go_wp2_with fail
  with_reducible refine (CT.out B D BQ DQ _ HV.out (HS.out.below HB.out) HQ.out).mono ?_
  rintro e_ w7 ⟨rfl, hb⟩
  replace HB := Lib.hid (on_below HB.out hb)
  replace HV := Lib.hid (HV.out.below hb)
  replace HQ := Lib.hid (HQ.out.below hb)
  replace HL := Lib.hid (HL.out.below hb)
  replace p0 := keepc hb p0
  replace p1 := keepc hb p1
  replace e0 := keepc hb e0
  replace e1 := keepc hb e1
  replace e2 := keepc hb e2
  replace kp := blk_on kp hb
  replace ke := blk_on ke hb
  replace lp := Nat.lt_of_lt_of_le lp hb.size
  replace le := Nat.lt_of_lt_of_le le hb.size
  clear hb
  go_upto_region 6 with fail
  have t0 : World.cell? (w7.alloc (.cells #[.int .i64 n, .int .i64 d] 36)) ⟨w7.heap.size, 0, none⟩ = some (.int .i64 n) := by simp [go_sem]
  have t1 : World.cell? (w7.alloc (.cells #[.int .i64 n, .int .i64 d] 36)) ⟨w7.heap.size, 1, none⟩ = some (.int .i64 d) := by simp [go_sem]
  have lt : w7.heap.size < (w7.alloc (.cells #[.int .i64 n, .int .i64 d] 36)).heap.size := by simp
  have hb : Below w7.heap.size w7 (w7.alloc (.cells #[.int .i64 n, .int .i64 d] 36)) := below_new _ _
  generalize w7.alloc (.cells #[.int .i64 n, .int .i64 d] 36) = w8 at *
  replace HB := Lib.hid (on_below HB.out hb)
  replace HV := Lib.hid (HV.out.below hb)
  replace HQ := Lib.hid (HQ.out.below hb)
  replace HL := Lib.hid (HL.out.below hb)
  replace p0 := keepc hb p0
  replace p1 := keepc hb p1
  replace e0 := keepc hb e0
  replace e1 := keepc hb e1
  replace e2 := keepc hb e2
  replace kp := blk_on kp hb
  replace ke := blk_on ke hb
  replace lp := Nat.lt_of_lt_of_le lp hb.size
  replace le := Nat.lt_of_lt_of_le le hb.size
  clear hb
  generalize w7.heap.size = gt at *
  go_wp2_with fail
  go_loopw [12, 13, 14] (fun u v i wr => ∃ (k : Nat) (bl ab : Bool), k ≤ M.length ∧ u = .bool bl ∧ v = .bool ab ∧ i = .int .i64 k ∧ Hid (bl = true ↔ ∀ j, j < k → 0 < sj j) ∧ Hid (ab = true ↔ ∀ j, j < k → sj j < 0) ∧ Below w8.heap.size w8 wr) (fun _ _ i _ => M.length - (intOf i).toNat)
  case atStart => exact ⟨0, true, true, Nat.zero_le _, rfl, rfl, rfl, (iff_of_true rfl (fun j hj => absurd hj (Nat.not_lt_zero j))), (iff_of_true rfl (fun j hj => absurd hj (Nat.not_lt_zero j))), Below.refl _ _⟩
  case round =>
    obtain ⟨k, bl, ab, hk, rfl, rfl, rfl, HB1, HB2, hW⟩ := hrel
    have w1_ : IntKind.i64.wrap ((k : Int) + 1) = (k : Int) + 1 := IntWalk.i64_in _ ⟨by omega, by omega⟩
    have w2_ : wrap64 ((k : Int) + 1) = (k : Int) + 1 := IntWalk.wrap64_in _ ⟨by omega, by omega⟩
    by_cases hlt : k < M.length
    · obtain ⟨b0, o0, hA0, f0, f1⟩ := HL.out.below hW k (by rw [HLL.out]; exact hlt)
      subst hA0
      obtain ⟨a, b, hab, hb, hm, ha, hv, hs, h3⟩ := HR.out k hlt
      rw [hab] at f0 f1
      dsimp only at f0 f1
      clear hab
      have S1 := Lib.hid (fun (s : Int) (e : sj k = s) => all_step HB1.out (c := decide (0 < s)) (by rw [e]; exact decide_eq_true_iff))
      have S2 := Lib.hid (fun (s : Int) (e : sj k = s) => all_step HB2.out (c := decide (s < 0)) (by rw [e]; exact decide_eq_true_iff))
      clear HB1 HB2
      have CC := Lib.hid (fun W => cmp_any a b n d W ⟨by omega, by omega⟩ ⟨by omega, by omega⟩ HND.out.1 HND.out.2)
      rw [show (vld a b && vld n d) = true by rw [hv, HVD.out]; rfl] at CC
      simp only [cmpR, cmpE, if_true] at CC
      rw [hs] at CC
      clear hs hv
      obtain ⟨s, hse⟩ : ∃ s, sj k = s := ⟨_, rfl⟩
      replace S1 := Lib.hid (S1.out s hse)
      replace S2 := Lib.hid (S2.out s hse)
      rw [hse] at CC h3
      clear hse
      have g0 : decide (b < 1) = false := decide_eq_false (by omega)
      have g1 : decide (100 < b) = false := decide_eq_false (by omega)
      have g2 : decide (a < 0) = false := decide_eq_false (by omega)
      have g3 : decide (b < a) = false := decide_eq_false (by omega)
      have n0 : ¬ b = 0 := by omega
      have n1 : (b == 0) = false := by simp [n0]
      have H3 := Lib.hid h3
      clear h3 ha hb
      have xt0 := keepc hW t0
      have xt1 := keepc hW t1
      have HW := Lib.hid hW
      clear hW p0 p1 e0 e1 e2 t0 t1
      go_wp2_with fail
      go_quiet (fail)
      go_wp2_with fail
      have hq_ := below_drewN' (Below.refl wr.heap.size wr) nq
      replace f0 := keepc hq_ f0
      replace f1 := keepc hq_ f1
      replace xt0 := keepc hq_ xt0
      replace xt1 := keepc hq_ xt1
      replace HW := Lib.hid (on_below HW.out hq_)
      clear hq_
      generalize wr.drewN nq = wq at *
      have kp : ∀ {Wq_ : World}, Below wq.heap.size wq Wq_ → Wq_.cell? ⟨b0, o0 + k * 2, none⟩ = some (.int .i64 a) ∧ Wq_.cell? ⟨b0, o0 + k * 2 + 1, none⟩ = some (.int .i64 b) ∧ Wq_.cell? ⟨gt, 0, none⟩ = some (.int .i64 n) ∧ Wq_.cell? ⟨gt, 1, none⟩ = some (.int .i64 d) := fun h => ⟨keepc h f0, keepc h f1, keepc h xt0, keepc h xt1⟩
      refine wp_region_held_drew (S := fun Wq_ => Wq_.cell? ⟨b0, o0 + k * 2, none⟩ = some (.int .i64 a) ∧ Wq_.cell? ⟨b0, o0 + k * 2 + 1, none⟩ = some (.int .i64 b) ∧ Wq_.cell? ⟨gt, 0, none⟩ = some (.int .i64 n) ∧ Wq_.cell? ⟨gt, 1, none⟩ = some (.int .i64 d)) (by kernel_rfl) (kp (Below.refl _ _).drew) fun HL_ => ?_
      refine wpAnyH_take (i := 0) (v := .slice (some ⟨b0, o0, none⟩) M.length M.length) rfl (by kernel_rfl) (by kernel_rfl) (by kernel_rfl) (fun _ _ _ h => h) (Or.inl ⟨by kernel_rfl, ?_⟩) HL_ ?_
      · rintro Wl ⟨s0, s1, s2, s3⟩
        go_simp
      simp only [Act.put, List.getElem_toArray, List.getElem_cons_succ, List.getElem_cons_zero, List.setIfInBounds_toArray, List.set_cons_zero, List.set_cons_succ]
      refine wpAnyH_take (i := 1) (v := .int .i64 k) rfl (by kernel_rfl) (by kernel_rfl) (by kernel_rfl) (fun _ _ _ h => h) (Or.inl ⟨by kernel_rfl, ?_⟩) HL_ ?_
      · rintro Wl ⟨s0, s1, s2, s3⟩
        go_simp
      simp only [Act.put, List.getElem_toArray, List.getElem_cons_succ, List.getElem_cons_zero, List.setIfInBounds_toArray, List.set_cons_zero, List.set_cons_succ]
      refine wpAnyH_take (i := 2) (v := .pointer (some ⟨b0, o0 + k * 2, none⟩)) rfl (by kernel_rfl) (by kernel_rfl) (by kernel_rfl) (fun _ _ _ h => h) (Or.inl ⟨by kernel_rfl, ?_⟩) HL_ ?_
      · rintro Wl ⟨s0, s1, s2, s3⟩
        go_simp
      simp only [Act.put, List.getElem_toArray, List.getElem_cons_succ, List.getElem_cons_zero, List.setIfInBounds_toArray, List.set_cons_zero, List.set_cons_succ]
      refine wpAnyH_take (i := 3) (v := .agg #[.int .i64 a, .int .i64 b]) rfl (by kernel_rfl) (by kernel_rfl) (by kernel_rfl) (fun _ _ _ h => h) (Or.inl ⟨by kernel_rfl, ?_⟩) HL_ ?_
      · rintro Wl ⟨s0, s1, s2, s3⟩
        go_simp
      simp only [Act.put, List.getElem_toArray, List.getElem_cons_succ, List.getElem_cons_zero, List.setIfInBounds_toArray, List.set_cons_zero, List.set_cons_succ]
      refine wpAnyH_take (i := 4) (v := .agg #[.int .i64 n, .int .i64 d]) rfl (by kernel_rfl) (by kernel_rfl) (by kernel_rfl) (fun _ _ _ h => h) (Or.inl ⟨by kernel_rfl, ?_⟩) HL_ ?_
      · rintro Wl ⟨s0, s1, s2, s3⟩
        go_simp
      simp only [Act.put, List.getElem_toArray, List.getElem_cons_succ, List.getElem_cons_zero, List.setIfInBounds_toArray, List.set_cons_zero, List.set_cons_succ]
      refine wpAnyH_ready (rs := [5]) (by kernel_rfl) (by simp) ?_
      refine AllReadyH.cons (o := _) rfl (fun K hK => ?_) AllReadyH.nil
      go_simp
      with_reducible refine (CC.out _).mono ?_
      rintro e_ ud1 ⟨rfl, hb⟩
      have hbX : Below wq.heap.size wq ud1 := undrew_b hb
      clear hb
      refine hK.out _ _ (kp hbX) fun HL_ => ?_
      clear hK K
      refine wpAnyH_take (i := 6) (v := .tuple #[.int .i64 s, .int .i64 0]) rfl (by kernel_rfl) (by kernel_rfl) (by kernel_rfl) (fun _ _ _ h => h) (Or.inl ⟨by kernel_rfl, ?_⟩) HL_ ?_
      · rintro Wl ⟨s0, s1, s2, s3⟩
        go_simp
      simp only [Act.put, List.getElem_toArray, List.getElem_cons_succ, List.getElem_cons_zero, List.setIfInBounds_toArray, List.set_cons_zero, List.set_cons_succ]
      refine wpAnyH_take (i := 7) (v := .int .i64 s) rfl (by kernel_rfl) (by kernel_rfl) (by kernel_rfl) (fun _ _ _ h => h) (Or.inl ⟨by kernel_rfl, ?_⟩) HL_ ?_
      · rintro Wl ⟨s0, s1, s2, s3⟩
        go_simp
      simp only [Act.put, List.getElem_toArray, List.getElem_cons_succ, List.getElem_cons_zero, List.setIfInBounds_toArray, List.set_cons_zero, List.set_cons_succ]
      refine wpAnyH_take (i := 8) (v := .int .i64 0) rfl (by kernel_rfl) (by kernel_rfl) (by kernel_rfl) (fun _ _ _ h => h) (Or.inl ⟨by kernel_rfl, ?_⟩) HL_ ?_
      · rintro Wl ⟨s0, s1, s2, s3⟩
        go_simp
      simp only [Act.put, List.getElem_toArray, List.getElem_cons_succ, List.getElem_cons_zero, List.setIfInBounds_toArray, List.set_cons_zero, List.set_cons_succ]
      refine wpAnyH_take (i := 9) (v := .int .i64 s) rfl (by kernel_rfl) (by kernel_rfl) (by kernel_rfl) (fun _ _ _ h => h) (Or.inl ⟨by kernel_rfl, ?_⟩) HL_ ?_
      · rintro Wl ⟨s0, s1, s2, s3⟩
        go_simp
      simp only [Act.put, List.getElem_toArray, List.getElem_cons_succ, List.getElem_cons_zero, List.setIfInBounds_toArray, List.set_cons_zero, List.set_cons_succ]
      refine wpAnyH_take (i := 10) (v := .int .i64 0) rfl (by kernel_rfl) (by kernel_rfl) (by kernel_rfl) (fun _ _ _ h => h) (Or.inl ⟨by kernel_rfl, ?_⟩) HL_ ?_
      · rintro Wl ⟨s0, s1, s2, s3⟩
        go_simp
      simp only [Act.put, List.getElem_toArray, List.getElem_cons_succ, List.getElem_cons_zero, List.setIfInBounds_toArray, List.set_cons_zero, List.set_cons_succ]
      refine wpAnyH_done (by kernel_rfl) ?_ _
      clear HL_ kp
      replace HW := Lib.hid (on_below HW.out hbX)
      clear hbX CC f0 f1 xt0 xt1 g0 g1 g2 g3 n0 n1 hm
      have h3 := H3.out
      clear H3
      rcases h3 with rfl | rfl | rfl <;> cases bl <;> cases ab
      all_goals go_wp2_with fail
      all_goals go_roundw
      all_goals (first | exact ⟨k + 1, _, _, hlt, rfl, rfl, int_of (by first | rfl | exact w1_ | exact w2_), S1.out, S2.out, HW.out⟩ | (simp [intOf, w1_, w2_]; clear w1_ w2_; omega))
    · have hke : k = M.length := Nat.le_antisymm hk (Nat.le_of_not_lt hlt)
      subst hke
      have hb1 : bl = false := (false_of (fun e => HNO.out.1 (HB1.out.1 e))).symm
      have hb2 : ab = false := (false_of (fun e => HNO.out.2 (HB2.out.1 e))).symm
      subst hb1 hb2
      clear HB1 HB2
      go_wp2_with fail
      go_ret
      exact ⟨rfl, on_below HB.out hW⟩
theorem law_any (SA : Option Addr) (SC : Nat) (S : List Bv) (NA : Option Addr) (NC : Nat) (N : List Sv) (ex ey ez : Int) (OA : Option Addr) (OC : Nat) (O : List Bv) (w : World) (lS : LC w SA SC S) (lN : LV w NA NC N) (lO : LC w OA OC O) :
    Calls Try.prog 3 #[.agg #[.slice SA S.length SC, .slice NA N.length NC], .agg #[.int .i64 ex, .int .i64 ey, .int .i64 ez], .slice OA O.length OC] w fun e_ w' => e_ = .returned (.bool true) ∧ Below w.heap.size w w' := by
  obtain ⟨E, hE⟩ := sce_ex (S.take 6) (fewl N) ex ey ez (cutl O)
  by_cases h0 : E = 0
  · subst h0
    obtain ⟨h1, h2⟩ := sce_zero hE
    have hT : TotR (S.take 6) (fewl N) ex ey ez (cutl O) _ _ 0 := Or.inr ⟨rfl, h1, h2, rfl, rfl⟩
    obtain ⟨sj, hr, hn⟩ := bnd_all hT
    exact bnd_1 SA SC S NA NC N ex ey ez OA OC O _ _ _ ⟨rfl, rfl, rfl⟩ _ _ hT sj hr hn w lS lN lO
  · exact bnd_0 SA SC S NA NC N ex ey ez OA OC O _ _ _ ⟨rfl, rfl, rfl⟩ E hE h0 w lS lN lO
/-! ### The row -/
open Go.ChangeShapes Go.WideShapes Go.ChangeAt Go.Joins
theorem own : ownKnob Try.prog.godebug = none := by kernel_rfl
noncomputable def laidWorld (os : Os) : World := World.holding Try.prog os ⟨#[], #[], []⟩
theorem laidWorld_met (os : Os) (args : Array Value) : laidMet Try.prog [] ((laidWorld os).forCall (fun _ _ => 0) ⟨#[], args, []⟩).memory :=
  laidMet_of_run' 8 (by kernel_rfl) (by kernel_rfl)

set_option maxRecDepth 100000 in
theorem contract (H : Type) (enc : TypeId × Value → H) (W : World) (base : Nat) (args : Array Value) (ds gs : List (DataW H)) (before : List MemPlace)
    (hval : ∀ (j : Nat) t v, Try.f3.params[j]? = some t → args[j]? = some v → Value.okWide Try.prog W .any base t v)
    (hW : DataW.Whole enc Try.prog Try.f3.params.toList Rows.sceneBoundsSpec.vars false W args.toList ds gs before) :
    Calls Try.prog 3 args W fun e W' => ∃ v, e = .returned v ∧ Rows.sceneBoundsSpec.post enc Try.prog Try.f3 false true false false W args v W' := by
  have hW' := hW
  have hold : ∀ q ∈ before, decide (q.block < W.heap.size) = true := fun q hq => by simpa using hW.lt q hq
  obtain ⟨p, q, hA0, hV, rfl, hfz, hnd⟩ := hW
  have hA : DataW.TrodAll enc Try.prog W 0 (fun _ => true) true Try.f3.params.toList args.toList ds p := hA0
  rw [Try.params3] at hA hval
  obtain ⟨v0, vs0, d0, ds0, p0, q0, hargs, rfl, rfl, h0, r0⟩ := trodAll_cons hA
  obtain ⟨v1, vs1, d1, ds1, p1, q1, rfl, rfl, rfl, h1, r1⟩ := trodAll_cons r0
  obtain ⟨v2, vs2, d2, ds2, p2, q2, rfl, rfl, rfl, h2, r2⟩ := trodAll_cons r1
  obtain ⟨rfl, rfl, rfl⟩ := trodAll_nil r2
  obtain rfl : args = #[v0, v1, v2] := Array.toList_inj.1 hargs
  obtain ⟨rfl, rfl⟩ := trodVars_none hV
  obtain ⟨SA, SC, S, NA, NC, N, rfl, lS, lN, shutP⟩ := open_play (hval 0 25 v0 rfl rfl) h0
  obtain ⟨ex, ey, ez, rfl, rfl, rfl, iex, iey, iez⟩ := open_vec (hval 1 27 v1 rfl rfl) h1
  obtain ⟨OA, OC, O, rfl, lO, shutO⟩ := open_bods (hval 2 22 v2 rfl rfl) h2
  clear hA0
  refine (law_any SA SC S NA NC N ex ey ez OA OC O W lS lN lO).mono fun e W' ⟨he, bel⟩ => ?_
  subst he
  exact ⟨_, rfl, _, _, _, [], _, [], hW', trodAll_mk1 (shut_bool Try.underlying4 _), (trodAll_cons_mk (shutP W' (fun b => decide (b < W.heap.size)) bel (fun q hq => hold q (by simp [hq]))) (trodAll_cons_mk (shut_vec iex iey iez) (trodAll_cons_mk (shutO W' (fun b => decide (b < W.heap.size)) bel (fun q hq => hold q (by simp [hq]))) trodAll_mk0))), rfl, bel.frame _, fun h => by cases h⟩

theorem reads (os : Os) {H : Type} (enc : TypeId × Value → H) : ∃ places, DataW.whole enc Try.prog ((laidWorld os).forCall (fun _ _ => 0) ⟨#[], #[.agg #[.slice none 0 0, .slice none 0 0], .agg #[.int .i64 0, .int .i64 0, .int .i64 0], .slice none 0 0], []⟩).memory Try.f3.params.toList Rows.sceneBoundsSpec.vars false (#[.agg #[.slice none 0 0, .slice none 0 0], .agg #[.int .i64 0, .int .i64 0, .int .i64 0], .slice none 0 0] : Array Value).toList 8 = some ([.agg [.nil, .nil], .agg [.lit (.int .i64 0), .lit (.int .i64 0), .lit (.int .i64 0)], .nil], [], places) :=
  ⟨[], by kernel_rfl⟩

set_option maxRecDepth 100000 in
theorem lifted (os : Os) (started : os.Started) (H : Type) (enc : TypeId × Value → H) (F : Stop.Interp) :
    ReturnsInHanded {} Try.checked os 3 .any ((OpenSpec.ofChange Rows.sceneBoundsSpec).preRow enc Try.prog Try.f3 Rows.sceneBoundsRow.domain false Rows.sceneBoundsRow.laid) (((OpenSpec.ofChange Rows.sceneBoundsSpec).at F).post enc Try.prog Try.f3 false true false false) := by
  obtain ⟨places, hx⟩ := reads os enc
  refine returnsInHanded_of_row (C := Try.checked) (s := OpenSpec.ofChange Rows.sceneBoundsSpec) own started (by kernel_rfl) Try.func3
    (witness_row_atRef (enc := enc) (C := Try.checked) false (laidWorld os) #[.agg #[.slice none 0 0, .slice none 0 0], .agg #[.int .i64 0, .int .i64 0, .int .i64 0], .slice none 0 0] rfl (by kernel_rfl) (by kernel_rfl) (by kernel_rfl)
      (OpenSpec.preRow_of_cond 8 hx (by kernel_rfl) (fun k hk => by cases hk) (by kernel_rfl) (laidWorld_met os _))) ?_
  intro W base args ds gs before hval hW _ hcond _ hL hsh _
  exact contract H enc W base args ds gs before hval hW

/-- The statement. -/
theorem said : Rows.SceneBoundsSaid :=
  OpenClaim.holds_of_cond 3 Try.f3 rfl rfl rfl rfl rfl rfl rfl ⟨rfl, rfl, rfl, rfl, rfl⟩ rfl rfl rfl rfl rfl (by kernel_rfl) Try.func3 (by kernel_rfl)
    (of_decide_eq_true (by kernel_rfl)) (by unfold Func.isWrapper; first | (rw [if_pos (by decide +kernel)]; kernel_rfl) | (rw [if_neg (by decide +kernel)]; exact ⟨rfl, rfl⟩))
    (fun os started H enc _ F => by rw [OpenClaim.pre_eq_preRow]; exact lifted os started H enc F)
end Go.Proofs.Ytgjcmolocoijiaa.LawBounds
