/-
  SceneDivided.
-/
import Derived.Test.YtiffgcipdamngaaZScnV
import Derived.Test.YtiffgcipdamngaaRows
import Derived.ProofKit
import Derived.OpenShut
import Derived.Deep.DeepHandedRow
import Derived.Deep.DeepWitnessRowRef
import Derived.MakeChecks
import Derived.Deep.DeepCutAuto
import Derived.Test.YtiffgcipdamngaaZGenE
import Derived.Deep.QuietTactic
import Derived.BigQuiet
namespace Go.Proofs.Ytiffgcipdamngaa.LawDivided
open Go.RowKit Go.Sort
open Go.RowKit (Below)
set_option linter.unusedVariables false
set_option linter.unusedSimpArgs false
attribute [local go_sem] Oper.semAt_some

set_option maxRecDepth 100000 in
set_option maxHeartbeats 4000000 in
theorem dv_0 (SA : Option Addr) (SC : Nat) (S : List Bv) (NA : Option Addr) (NC : Nat) (N : List Sv) (ex ey ez : Int) (OA : Option Addr) (OC : Nat) (O : List Bv) (at_ mi : Int) (ha : 0 ≤ at_ ∧ at_ ≤ 255) (hmi : 0 ≤ mi ∧ mi ≤ 255) (T : List Bv) (M : List Sv) (Q : List Bv) (hX : Cutx S N O T M Q) (E : Int) (hE : ScE T M ex ey ez Q E) (h0 : E ≠ 0) (w : World) (lS : LC w SA SC S) (lN : LV w NA NC N) (lO : LC w OA OC O) :
    Calls Try.prog 3 #[.agg #[.slice SA S.length SC, .slice NA N.length NC], .agg #[.int .i64 ex, .int .i64 ey, .int .i64 ez], .slice OA O.length OC, .int .u8 at_, .int .u8 mi] w fun e_ w' => e_ = .returned (.bool true) ∧ Below w.heap.size w w' := by
  have CT := Lib.hid (fun B D BQ DQ W (a : SvS W B M) (b : BdS W SA T) (c : BdS W BQ Q) => total_is SA SC T B D M ex ey ez BQ DQ Q hX.sml (by have := hX.ql; omega) 0 0 E (Or.inl ⟨h0, hE, rfl, rfl⟩) W a b c)
  have z0 : (E != 0) = true := by simp [h0]
  clear hE h0 ha hmi
  have CF := Lib.hid (fun W (h : SvS W NA N) => few11_is SA SC S NA NC N lS.cap (Nat.le_trans lN.cap.1 lN.cap.2) lN.ca M hX.m T.length (by rw [hX.t]) W h)
  have CQ := Lib.hid (fun W (h : BdS W OA O) => cut_is OA OC O (Nat.le_trans lO.cap.1 lO.cap.2) lO.ca Q hX.q W h)
  have HS := Lib.hid (show BdS w SA T from hX.t ▸ lS.sl.take 6)
  have HN := Lib.hid lN.sl
  have HO := Lib.hid lO.sl
  have hTl := hX.tl
  have hMl := hX.ml
  have hQl := hX.ql
  clear lS lN lO hX
  go_enter Try.func3, Try.ntmps3
  go_wp2_with fail
  obtain ⟨w1, hw1⟩ : ∃ V, ((w.alloc (.cells #[.slice SA S.length SC, .slice NA N.length NC] 25)).alloc (.cells #[.int .i64 ex, .int .i64 ey, .int .i64 ez] 27)) = V := ⟨_, rfl⟩
  obtain ⟨hB_, kp, ke⟩ := boxes2 _ _ _ hw1
  rw [hw1]
  clear hw1
  have HB := Lib.hid hB_
  clear hB_
  have p0 := (two_cells kp).1
  have p1 := (two_cells kp).2.1
  have lp := block_lt p0
  have e0 := (cells3 ke).1
  have e1 := (cells3 ke).2.1
  have e2 := (cells3 ke).2.2
  have le := block_lt e0
  with_reducible refine (head11_any _).mono ?_
  rintro e_ w2 ⟨rfl, hb⟩
  replace HB := Lib.hid (on_below HB.out hb)
  replace p0 := keepc hb p0
  replace p1 := keepc hb p1
  replace e0 := keepc hb e0
  replace e1 := keepc hb e1
  replace e2 := keepc hb e2
  replace kp := blk_on kp hb
  replace ke := blk_on ke hb
  replace lp := Nat.lt_of_lt_of_le lp hb.size
  replace le := Nat.lt_of_lt_of_le le hb.size
  clear hb
  go_wp2_with fail
  with_reducible refine (CF.out _ (HN.out.below HB.out)).mono ?_
  rintro e_ w3 ⟨B, ⟨D, rfl⟩, hsv, hb⟩
  replace HB := Lib.hid (on_below HB.out hb)
  replace p0 := keepc hb p0
  replace p1 := keepc hb p1
  replace e0 := keepc hb e0
  replace e1 := keepc hb e1
  replace e2 := keepc hb e2
  replace kp := blk_on kp hb
  replace ke := blk_on ke hb
  replace lp := Nat.lt_of_lt_of_le lp hb.size
  replace le := Nat.lt_of_lt_of_le le hb.size
  clear hb
  have hpx : Pbx w3 w.heap.size := ⟨_, _, _, _, _, _, _, kp⟩
  have fp0 : World.frozen? w3 ⟨w.heap.size, 0, none⟩ = false := by simp [World.frozen?, kp]
  have fp1 : World.frozen? w3 ⟨w.heap.size, 1, none⟩ = false := by simp [World.frozen?, kp]
  go_wp2_with fail
  clear CF fp0 fp1 p0 p1 e0 e1 e2 lp le
  have HV := Lib.hid (show SvS ((w3.setCell ⟨w.heap.size, 0, none⟩ (.slice SA T.length SC)).setCell ⟨w.heap.size, 1, none⟩ (.slice B M.length D)) B M from hsv.far hpx)
  clear hsv hpx
  replace kp : ((w3.setCell ⟨w.heap.size, 0, none⟩ (.slice SA T.length SC)).setCell ⟨w.heap.size, 1, none⟩ (.slice B M.length D)).heap[w.heap.size]? = some (.cells #[.slice SA T.length SC, .slice B M.length D] 25 (0, 0)) := set_cells (set_cells kp 0 _) 1 _
  replace ke : ((w3.setCell ⟨w.heap.size, 0, none⟩ (.slice SA T.length SC)).setCell ⟨w.heap.size, 1, none⟩ (.slice B M.length D)).heap[w.heap.size + 1]? = _ := blk_far (blk_far ke (by omega)) (by omega)
  replace HB := Lib.hid (show Below w.heap.size w ((w3.setCell ⟨w.heap.size, 0, none⟩ (.slice SA T.length SC)).setCell ⟨w.heap.size, 1, none⟩ (.slice B M.length D)) from (HB.out.setCell (by simp <;> omega) _).setCell (by simp <;> omega) _)
  generalize ((w3.setCell ⟨w.heap.size, 0, none⟩ (.slice SA T.length SC)).setCell ⟨w.heap.size, 1, none⟩ (.slice B M.length D)) = w4 at *
  have p0 := (two_cells kp).1
  have p1 := (two_cells kp).2.1
  have lp := block_lt p0
  have e0 := (cells3 ke).1
  have e1 := (cells3 ke).2.1
  have e2 := (cells3 ke).2.2
  have le := block_lt e0
  with_reducible refine (CQ.out _ (HO.out.below HB.out)).mono ?_
  rintro e_ w5 ⟨BQ, ⟨DQ, rfl⟩, hq, hb⟩
  replace HB := Lib.hid (on_below HB.out hb)
  replace HV := Lib.hid (HV.out.below hb)
  replace p0 := keepc hb p0
  replace p1 := keepc hb p1
  replace e0 := keepc hb e0
  replace e1 := keepc hb e1
  replace e2 := keepc hb e2
  replace kp := blk_on kp hb
  replace ke := blk_on ke hb
  replace lp := Nat.lt_of_lt_of_le lp hb.size
  replace le := Nat.lt_of_lt_of_le le hb.size
  clear hb
  clear CQ
  have HQ := Lib.hid hq
  clear hq
  go_wp2_with fail
  with_reducible refine (CT.out B D BQ DQ _ HV.out (HS.out.below HB.out) HQ.out).mono ?_
  rintro e_ w6 ⟨rfl, hb⟩
  replace HB := Lib.hid (on_below HB.out hb)
  replace HV := Lib.hid (HV.out.below hb)
  replace HQ := Lib.hid (HQ.out.below hb)
  replace p0 := keepc hb p0
  replace p1 := keepc hb p1
  replace e0 := keepc hb e0
  replace e1 := keepc hb e1
  replace e2 := keepc hb e2
  replace kp := blk_on kp hb
  replace ke := blk_on ke hb
  replace lp := Nat.lt_of_lt_of_le lp hb.size
  replace le := Nat.lt_of_lt_of_le le hb.size
  clear hb
  go_wp2_with fail
  have t0 : World.cell? (w6.alloc (.cells #[.int .i64 0, .int .i64 0] 32)) ⟨w6.heap.size, 0, none⟩ = some (.int .i64 0) := by simp [go_sem]
  have t1 : World.cell? (w6.alloc (.cells #[.int .i64 0, .int .i64 0] 32)) ⟨w6.heap.size, 1, none⟩ = some (.int .i64 0) := by simp [go_sem]
  have lt : w6.heap.size < (w6.alloc (.cells #[.int .i64 0, .int .i64 0] 32)).heap.size := by simp
  have hb : Below w6.heap.size w6 (w6.alloc (.cells #[.int .i64 0, .int .i64 0] 32)) := below_new _ _
  generalize w6.alloc (.cells #[.int .i64 0, .int .i64 0] 32) = w7 at *
  replace HB := Lib.hid (on_below HB.out hb)
  replace HV := Lib.hid (HV.out.below hb)
  replace HQ := Lib.hid (HQ.out.below hb)
  replace p0 := keepc hb p0
  replace p1 := keepc hb p1
  replace e0 := keepc hb e0
  replace e1 := keepc hb e1
  replace e2 := keepc hb e2
  replace kp := blk_on kp hb
  replace ke := blk_on ke hb
  replace lp := Nat.lt_of_lt_of_le lp hb.size
  replace le := Nat.lt_of_lt_of_le le hb.size
  clear hb
  generalize w6.heap.size = gt at *
  go_ret
  exact ⟨rfl, HB.out⟩
set_option maxRecDepth 100000 in
set_option maxHeartbeats 4000000 in
theorem dv_1 (SA : Option Addr) (SC : Nat) (S : List Bv) (NA : Option Addr) (NC : Nat) (N : List Sv) (ex ey ez : Int) (OA : Option Addr) (OC : Nat) (O : List Bv) (at_ mi : Int) (ha : 0 ≤ at_ ∧ at_ ≤ 255) (hmi : 0 ≤ mi ∧ mi ≤ 255) (T : List Bv) (M : List Sv) (Q : List Bv) (hX : Cutx S N O T M Q) (n d : Int) (hT : TotR T M ex ey ez Q n d 0) (kk : Nat) (hkk : Int.tmod at_ (M.length : Int) = (kk : Int)) (hkl : kk < M.length) (hm : (gdV M kk).m = 1) (w : World) (lS : LC w SA SC S) (lN : LV w NA NC N) (lO : LC w OA OC O) :
    Calls Try.prog 3 #[.agg #[.slice SA S.length SC, .slice NA N.length NC], .agg #[.int .i64 ex, .int .i64 ey, .int .i64 ez], .slice OA O.length OC, .int .u8 at_, .int .u8 mi] w fun e_ w' => e_ = .returned (.bool true) ∧ Below w.heap.size w w' := by
  have CT := Lib.hid (fun B D BQ DQ W (a : SvS W B M) (b : BdS W SA T) (c : BdS W BQ Q) => total_is SA SC T B D M ex ey ez BQ DQ Q hX.sml (by have := hX.ql; omega) n d 0 hT W a b c)
  have hM4 := hX.ml
  have q0 : ¬ (M.length : Int) = 0 := by omega
  have q1 : ((M.length : Int) == 0) = false := by rw [beq_eq_false_iff_ne]; exact q0
  have q2 : decide ((M.length : Int) = 0) = false := decide_eq_false q0
  have wa1 : IntKind.i64.wrap at_ = at_ := IntWalk.i64_in _ ⟨by omega, by omega⟩
  have wa2 : wrap64 at_ = at_ := IntWalk.wrap64_in _ ⟨by omega, by omega⟩
  have wk1 : (kk : Int) < (M.length : Int) := by omega
  clear hT ha hmi
  have CF := Lib.hid (fun W (h : SvS W NA N) => few11_is SA SC S NA NC N lS.cap (Nat.le_trans lN.cap.1 lN.cap.2) lN.ca M hX.m T.length (by rw [hX.t]) W h)
  have CQ := Lib.hid (fun W (h : BdS W OA O) => cut_is OA OC O (Nat.le_trans lO.cap.1 lO.cap.2) lO.ca Q hX.q W h)
  have HS := Lib.hid (show BdS w SA T from hX.t ▸ lS.sl.take 6)
  have HN := Lib.hid lN.sl
  have HO := Lib.hid lO.sl
  have hTl := hX.tl
  have hMl := hX.ml
  have hQl := hX.ql
  clear lS lN lO hX
  go_enter Try.func3, Try.ntmps3
  go_wp2_with fail
  obtain ⟨w1, hw1⟩ : ∃ V, ((w.alloc (.cells #[.slice SA S.length SC, .slice NA N.length NC] 25)).alloc (.cells #[.int .i64 ex, .int .i64 ey, .int .i64 ez] 27)) = V := ⟨_, rfl⟩
  obtain ⟨hB_, kp, ke⟩ := boxes2 _ _ _ hw1
  rw [hw1]
  clear hw1
  have HB := Lib.hid hB_
  clear hB_
  have p0 := (two_cells kp).1
  have p1 := (two_cells kp).2.1
  have lp := block_lt p0
  have e0 := (cells3 ke).1
  have e1 := (cells3 ke).2.1
  have e2 := (cells3 ke).2.2
  have le := block_lt e0
  with_reducible refine (head11_any _).mono ?_
  rintro e_ w2 ⟨rfl, hb⟩
  replace HB := Lib.hid (on_below HB.out hb)
  replace p0 := keepc hb p0
  replace p1 := keepc hb p1
  replace e0 := keepc hb e0
  replace e1 := keepc hb e1
  replace e2 := keepc hb e2
  replace kp := blk_on kp hb
  replace ke := blk_on ke hb
  replace lp := Nat.lt_of_lt_of_le lp hb.size
  replace le := Nat.lt_of_lt_of_le le hb.size
  clear hb
  go_wp2_with fail
  with_reducible refine (CF.out _ (HN.out.below HB.out)).mono ?_
  rintro e_ w3 ⟨B, ⟨D, rfl⟩, hsv, hb⟩
  replace HB := Lib.hid (on_below HB.out hb)
  replace p0 := keepc hb p0
  replace p1 := keepc hb p1
  replace e0 := keepc hb e0
  replace e1 := keepc hb e1
  replace e2 := keepc hb e2
  replace kp := blk_on kp hb
  replace ke := blk_on ke hb
  replace lp := Nat.lt_of_lt_of_le lp hb.size
  replace le := Nat.lt_of_lt_of_le le hb.size
  clear hb
  have hpx : Pbx w3 w.heap.size := ⟨_, _, _, _, _, _, _, kp⟩
  have fp0 : World.frozen? w3 ⟨w.heap.size, 0, none⟩ = false := by simp [World.frozen?, kp]
  have fp1 : World.frozen? w3 ⟨w.heap.size, 1, none⟩ = false := by simp [World.frozen?, kp]
  go_wp2_with fail
  clear CF fp0 fp1 p0 p1 e0 e1 e2 lp le
  have HV := Lib.hid (show SvS ((w3.setCell ⟨w.heap.size, 0, none⟩ (.slice SA T.length SC)).setCell ⟨w.heap.size, 1, none⟩ (.slice B M.length D)) B M from hsv.far hpx)
  clear hsv hpx
  replace kp : ((w3.setCell ⟨w.heap.size, 0, none⟩ (.slice SA T.length SC)).setCell ⟨w.heap.size, 1, none⟩ (.slice B M.length D)).heap[w.heap.size]? = some (.cells #[.slice SA T.length SC, .slice B M.length D] 25 (0, 0)) := set_cells (set_cells kp 0 _) 1 _
  replace ke : ((w3.setCell ⟨w.heap.size, 0, none⟩ (.slice SA T.length SC)).setCell ⟨w.heap.size, 1, none⟩ (.slice B M.length D)).heap[w.heap.size + 1]? = _ := blk_far (blk_far ke (by omega)) (by omega)
  replace HB := Lib.hid (show Below w.heap.size w ((w3.setCell ⟨w.heap.size, 0, none⟩ (.slice SA T.length SC)).setCell ⟨w.heap.size, 1, none⟩ (.slice B M.length D)) from (HB.out.setCell (by simp <;> omega) _).setCell (by simp <;> omega) _)
  generalize ((w3.setCell ⟨w.heap.size, 0, none⟩ (.slice SA T.length SC)).setCell ⟨w.heap.size, 1, none⟩ (.slice B M.length D)) = w4 at *
  have p0 := (two_cells kp).1
  have p1 := (two_cells kp).2.1
  have lp := block_lt p0
  have e0 := (cells3 ke).1
  have e1 := (cells3 ke).2.1
  have e2 := (cells3 ke).2.2
  have le := block_lt e0
  with_reducible refine (CQ.out _ (HO.out.below HB.out)).mono ?_
  rintro e_ w5 ⟨BQ, ⟨DQ, rfl⟩, hq, hb⟩
  replace HB := Lib.hid (on_below HB.out hb)
  replace HV := Lib.hid (HV.out.below hb)
  replace p0 := keepc hb p0
  replace p1 := keepc hb p1
  replace e0 := keepc hb e0
  replace e1 := keepc hb e1
  replace e2 := keepc hb e2
  replace kp := blk_on kp hb
  replace ke := blk_on ke hb
  replace lp := Nat.lt_of_lt_of_le lp hb.size
  replace le := Nat.lt_of_lt_of_le le hb.size
  clear hb
  clear CQ
  have HQ := Lib.hid hq
  clear hq
  go_wp2_with fail
  with_reducible refine (CT.out B D BQ DQ _ HV.out (HS.out.below HB.out) HQ.out).mono ?_
  rintro e_ w6 ⟨rfl, hb⟩
  replace HB := Lib.hid (on_below HB.out hb)
  replace HV := Lib.hid (HV.out.below hb)
  replace HQ := Lib.hid (HQ.out.below hb)
  replace p0 := keepc hb p0
  replace p1 := keepc hb p1
  replace e0 := keepc hb e0
  replace e1 := keepc hb e1
  replace e2 := keepc hb e2
  replace kp := blk_on kp hb
  replace ke := blk_on ke hb
  replace lp := Nat.lt_of_lt_of_le lp hb.size
  replace le := Nat.lt_of_lt_of_le le hb.size
  clear hb
  go_upto_region 5 with fail
  have t0 : World.cell? (w6.alloc (.cells #[.int .i64 n, .int .i64 d] 32)) ⟨w6.heap.size, 0, none⟩ = some (.int .i64 n) := by simp [go_sem]
  have t1 : World.cell? (w6.alloc (.cells #[.int .i64 n, .int .i64 d] 32)) ⟨w6.heap.size, 1, none⟩ = some (.int .i64 d) := by simp [go_sem]
  have lt : w6.heap.size < (w6.alloc (.cells #[.int .i64 n, .int .i64 d] 32)).heap.size := by simp
  have hb : Below w6.heap.size w6 (w6.alloc (.cells #[.int .i64 n, .int .i64 d] 32)) := below_new _ _
  generalize w6.alloc (.cells #[.int .i64 n, .int .i64 d] 32) = w7 at *
  replace HB := Lib.hid (on_below HB.out hb)
  replace HV := Lib.hid (HV.out.below hb)
  replace HQ := Lib.hid (HQ.out.below hb)
  replace p0 := keepc hb p0
  replace p1 := keepc hb p1
  replace e0 := keepc hb e0
  replace e1 := keepc hb e1
  replace e2 := keepc hb e2
  replace kp := blk_on kp hb
  replace ke := blk_on ke hb
  replace lp := Nat.lt_of_lt_of_le lp hb.size
  replace le := Nat.lt_of_lt_of_le le hb.size
  clear hb
  generalize w6.heap.size = gt at *
  obtain ⟨b0, o0, rfl, z0, z1, z2, _⟩ := HV.out kk hkl
  obtain ⟨sc, hsc⟩ : ∃ s, gdV M kk = s := ⟨_, rfl⟩
  rw [hsc] at z0 z1 z2 hm
  have HSC := Lib.hid hsc
  clear hsc
  obtain ⟨um, uBA, uBC, ub, uTA, uTC, ut⟩ := sc
  dsimp only at z0 z1 z2 hm
  subst hm
  go_wp2_with fail
  go_ret
  exact ⟨rfl, on_below HB.out (below_new _ _)⟩
set_option maxRecDepth 100000 in
set_option maxHeartbeats 4000000 in
theorem dv_2 (SA : Option Addr) (SC : Nat) (S : List Bv) (NA : Option Addr) (NC : Nat) (N : List Sv) (ex ey ez : Int) (OA : Option Addr) (OC : Nat) (O : List Bv) (at_ mi : Int) (ha : 0 ≤ at_ ∧ at_ ≤ 255) (hmi : 0 ≤ mi ∧ mi ≤ 255) (T : List Bv) (M : List Sv) (Q : List Bv) (hX : Cutx S N O T M Q) (n d : Int) (hT : TotR T M ex ey ez Q n d 0) (kk : Nat) (hkk : Int.tmod at_ (M.length : Int) = (kk : Int)) (hkl : kk < M.length) (hm : 2 ≤ (gdV M kk).m ∧ (gdV M kk).m ≤ 600) (w : World) (lS : LC w SA SC S) (lN : LV w NA NC N) (lO : LC w OA OC O) :
    Calls Try.prog 3 #[.agg #[.slice SA S.length SC, .slice NA N.length NC], .agg #[.int .i64 ex, .int .i64 ey, .int .i64 ez], .slice OA O.length OC, .int .u8 at_, .int .u8 mi] w fun e_ w' => e_ = .returned (.bool true) ∧ Below w.heap.size w w' := by
  have CT := Lib.hid (fun B D BQ DQ W (a : SvS W B M) (b : BdS W SA T) (c : BdS W BQ Q) => total_is SA SC T B D M ex ey ez BQ DQ Q hX.sml (by have := hX.ql; omega) n d 0 hT W a b c)
  have hM4 := hX.ml
  have q0 : ¬ (M.length : Int) = 0 := by omega
  have q1 : ((M.length : Int) == 0) = false := by rw [beq_eq_false_iff_ne]; exact q0
  have q2 : decide ((M.length : Int) = 0) = false := decide_eq_false q0
  have wa1 : IntKind.i64.wrap at_ = at_ := IntWalk.i64_in _ ⟨by omega, by omega⟩
  have wa2 : wrap64 at_ = at_ := IntWalk.wrap64_in _ ⟨by omega, by omega⟩
  have wk1 : (kk : Int) < (M.length : Int) := by omega
  have wb1 : IntKind.i64.wrap mi = mi := IntWalk.i64_in _ ⟨by omega, by omega⟩
  have wb2 : wrap64 mi = mi := IntWalk.wrap64_in _ ⟨by omega, by omega⟩
  have HMI := Lib.hid hmi
  obtain ⟨X, hXd⟩ : ∃ X, M.take kk = X := ⟨_, rfl⟩
  have HXL := Lib.hid (show X.length = kk by rw [← hXd, List.length_take]; omega)
  have HX1 := Lib.hid (fun (W : World) (A : Option Addr) (h : SvS W A M) => (hXd ▸ h.take kk : SvS W A X))
  have HXD := Lib.hid hXd
  have HT := Lib.hid hT
  have HBL := Lib.hid hX.bl
  clear hT ha hmi hXd
  have CF := Lib.hid (fun W (h : SvS W NA N) => few11_cap SA SC S NA NC N lS.cap (Nat.le_trans lN.cap.1 lN.cap.2) lN.ca M hX.m T.length (by rw [hX.t]) W h)
  have CQ := Lib.hid (fun W (h : BdS W OA O) => cut_is OA OC O (Nat.le_trans lO.cap.1 lO.cap.2) lO.ca Q hX.q W h)
  have HS := Lib.hid (show BdS w SA T from hX.t ▸ lS.sl.take 6)
  have HN := Lib.hid lN.sl
  have HO := Lib.hid lO.sl
  have hTl := hX.tl
  have hMl := hX.ml
  have hQl := hX.ql
  clear lS lN lO hX
  go_enter Try.func3, Try.ntmps3
  go_wp2_with fail
  obtain ⟨w1, hw1⟩ : ∃ V, ((w.alloc (.cells #[.slice SA S.length SC, .slice NA N.length NC] 25)).alloc (.cells #[.int .i64 ex, .int .i64 ey, .int .i64 ez] 27)) = V := ⟨_, rfl⟩
  obtain ⟨hB_, kp, ke⟩ := boxes2 _ _ _ hw1
  rw [hw1]
  clear hw1
  have HB := Lib.hid hB_
  clear hB_
  have p0 := (two_cells kp).1
  have p1 := (two_cells kp).2.1
  have lp := block_lt p0
  have e0 := (cells3 ke).1
  have e1 := (cells3 ke).2.1
  have e2 := (cells3 ke).2.2
  have le := block_lt e0
  with_reducible refine (head11_any _).mono ?_
  rintro e_ w2 ⟨rfl, hb⟩
  replace HB := Lib.hid (on_below HB.out hb)
  replace p0 := keepc hb p0
  replace p1 := keepc hb p1
  replace e0 := keepc hb e0
  replace e1 := keepc hb e1
  replace e2 := keepc hb e2
  replace kp := blk_on kp hb
  replace ke := blk_on ke hb
  replace lp := Nat.lt_of_lt_of_le lp hb.size
  replace le := Nat.lt_of_lt_of_le le hb.size
  clear hb
  go_wp2_with fail
  with_reducible refine (CF.out _ (HN.out.below HB.out)).mono ?_
  rintro e_ w3 ⟨B, ⟨D, hdc, rfl⟩, hsv, hb⟩
  replace HB := Lib.hid (on_below HB.out hb)
  replace p0 := keepc hb p0
  replace p1 := keepc hb p1
  replace e0 := keepc hb e0
  replace e1 := keepc hb e1
  replace e2 := keepc hb e2
  replace kp := blk_on kp hb
  replace ke := blk_on ke hb
  replace lp := Nat.lt_of_lt_of_le lp hb.size
  replace le := Nat.lt_of_lt_of_le le hb.size
  clear hb
  have HDC := Lib.hid hdc
  clear hdc
  have hpx : Pbx w3 w.heap.size := ⟨_, _, _, _, _, _, _, kp⟩
  have fp0 : World.frozen? w3 ⟨w.heap.size, 0, none⟩ = false := by simp [World.frozen?, kp]
  have fp1 : World.frozen? w3 ⟨w.heap.size, 1, none⟩ = false := by simp [World.frozen?, kp]
  go_wp2_with fail
  clear CF fp0 fp1 p0 p1 e0 e1 e2 lp le
  have HV := Lib.hid (show SvS ((w3.setCell ⟨w.heap.size, 0, none⟩ (.slice SA T.length SC)).setCell ⟨w.heap.size, 1, none⟩ (.slice B M.length D)) B M from hsv.far hpx)
  clear hsv hpx
  replace kp : ((w3.setCell ⟨w.heap.size, 0, none⟩ (.slice SA T.length SC)).setCell ⟨w.heap.size, 1, none⟩ (.slice B M.length D)).heap[w.heap.size]? = some (.cells #[.slice SA T.length SC, .slice B M.length D] 25 (0, 0)) := set_cells (set_cells kp 0 _) 1 _
  replace ke : ((w3.setCell ⟨w.heap.size, 0, none⟩ (.slice SA T.length SC)).setCell ⟨w.heap.size, 1, none⟩ (.slice B M.length D)).heap[w.heap.size + 1]? = _ := blk_far (blk_far ke (by omega)) (by omega)
  replace HB := Lib.hid (show Below w.heap.size w ((w3.setCell ⟨w.heap.size, 0, none⟩ (.slice SA T.length SC)).setCell ⟨w.heap.size, 1, none⟩ (.slice B M.length D)) from (HB.out.setCell (by simp <;> omega) _).setCell (by simp <;> omega) _)
  generalize ((w3.setCell ⟨w.heap.size, 0, none⟩ (.slice SA T.length SC)).setCell ⟨w.heap.size, 1, none⟩ (.slice B M.length D)) = w4 at *
  have p0 := (two_cells kp).1
  have p1 := (two_cells kp).2.1
  have lp := block_lt p0
  have e0 := (cells3 ke).1
  have e1 := (cells3 ke).2.1
  have e2 := (cells3 ke).2.2
  have le := block_lt e0
  with_reducible refine (CQ.out _ (HO.out.below HB.out)).mono ?_
  rintro e_ w5 ⟨BQ, ⟨DQ, rfl⟩, hq, hb⟩
  replace HB := Lib.hid (on_below HB.out hb)
  replace HV := Lib.hid (HV.out.below hb)
  replace p0 := keepc hb p0
  replace p1 := keepc hb p1
  replace e0 := keepc hb e0
  replace e1 := keepc hb e1
  replace e2 := keepc hb e2
  replace kp := blk_on kp hb
  replace ke := blk_on ke hb
  replace lp := Nat.lt_of_lt_of_le lp hb.size
  replace le := Nat.lt_of_lt_of_le le hb.size
  clear hb
  clear CQ
  have HQ := Lib.hid hq
  clear hq
  go_wp2_with fail
  with_reducible refine (CT.out B D BQ DQ _ HV.out (HS.out.below HB.out) HQ.out).mono ?_
  rintro e_ w6 ⟨rfl, hb⟩
  replace HB := Lib.hid (on_below HB.out hb)
  replace HV := Lib.hid (HV.out.below hb)
  replace HQ := Lib.hid (HQ.out.below hb)
  replace p0 := keepc hb p0
  replace p1 := keepc hb p1
  replace e0 := keepc hb e0
  replace e1 := keepc hb e1
  replace e2 := keepc hb e2
  replace kp := blk_on kp hb
  replace ke := blk_on ke hb
  replace lp := Nat.lt_of_lt_of_le lp hb.size
  replace le := Nat.lt_of_lt_of_le le hb.size
  clear hb
  go_upto_region 5 with fail
  have t0 : World.cell? (w6.alloc (.cells #[.int .i64 n, .int .i64 d] 32)) ⟨w6.heap.size, 0, none⟩ = some (.int .i64 n) := by simp [go_sem]
  have t1 : World.cell? (w6.alloc (.cells #[.int .i64 n, .int .i64 d] 32)) ⟨w6.heap.size, 1, none⟩ = some (.int .i64 d) := by simp [go_sem]
  have lt : w6.heap.size < (w6.alloc (.cells #[.int .i64 n, .int .i64 d] 32)).heap.size := by simp
  have hb : Below w6.heap.size w6 (w6.alloc (.cells #[.int .i64 n, .int .i64 d] 32)) := below_new _ _
  generalize w6.alloc (.cells #[.int .i64 n, .int .i64 d] 32) = w7 at *
  replace HB := Lib.hid (on_below HB.out hb)
  replace HV := Lib.hid (HV.out.below hb)
  replace HQ := Lib.hid (HQ.out.below hb)
  replace p0 := keepc hb p0
  replace p1 := keepc hb p1
  replace e0 := keepc hb e0
  replace e1 := keepc hb e1
  replace e2 := keepc hb e2
  replace kp := blk_on kp hb
  replace ke := blk_on ke hb
  replace lp := Nat.lt_of_lt_of_le lp hb.size
  replace le := Nat.lt_of_lt_of_le le hb.size
  clear hb
  generalize w6.heap.size = gt at *
  obtain ⟨b0, o0, rfl, z0, z1, z2, _⟩ := HV.out kk hkl
  obtain ⟨sc, hsc⟩ : ∃ s, gdV M kk = s := ⟨_, rfl⟩
  rw [hsc] at z0 z1 z2 hm
  have HSC := Lib.hid hsc
  clear hsc
  obtain ⟨um, uBA, uBC, ub, uTA, uTC, ut⟩ := sc
  dsimp only at z0 z1 z2 hm
  have m0 : decide (um < 2) = false := decide_eq_false (by omega)
  have m1 : decide (600 < um) = false := decide_eq_false (by omega)
  have m2 : IntKind.i64.wrap (um - 1) = um - 1 := IntWalk.i64_in _ ⟨by omega, by omega⟩
  have m3 : wrap64 (um - 1) = um - 1 := IntWalk.wrap64_in _ ⟨by omega, by omega⟩
  have m4 : ¬ um - 1 = 0 := by omega
  have m5 : (um - 1 == 0) = false := by rw [beq_eq_false_iff_ne]; exact m4
  obtain ⟨y, hy⟩ : ∃ y, 1 + Int.tmod mi (um - 1) = y := ⟨_, rfl⟩
  have hy2 : 1 ≤ y ∧ y ≤ um - 1 := by
    have e1 : Int.tmod mi (um - 1) = mi % (um - 1) := Int.tmod_eq_emod_of_nonneg HMI.out.1
    have e2 := Int.emod_nonneg mi m4
    have e3 := Int.emod_lt_of_pos mi (show 0 < um - 1 by omega)
    omega
  have m6 : IntKind.i64.wrap (1 + Int.tmod mi (um - 1)) = y := by rw [hy]; exact IntWalk.i64_in _ ⟨by omega, by omega⟩
  have m7 : wrap64 (1 + Int.tmod mi (um - 1)) = y := by rw [hy]; exact IntWalk.wrap64_in _ ⟨by omega, by omega⟩
  obtain ⟨x, hx⟩ : ∃ x, um - y = x := ⟨_, rfl⟩
  have m8 : IntKind.i64.wrap (um - y) = x := by rw [hx]; exact IntWalk.i64_in _ ⟨by omega, by omega⟩
  have m9 : wrap64 (um - y) = x := by rw [hx]; exact IntWalk.wrap64_in _ ⟨by omega, by omega⟩
  have HXY : Hid (x + y = um ∧ 1 ≤ x ∧ 1 ≤ y) := (show x + y = um ∧ 1 ≤ x ∧ 1 ≤ y from ⟨by omega, by omega, hy2.1⟩)
  clear hx hy hy2
  go_upto_region 15 with fail
  obtain ⟨w8, hw8⟩ : ∃ V, (((w7.alloc (.cells #[.int .i64 x, .slice uBA ub.length uBC, .slice uTA ut.length uTC] 38)).alloc (.cells #[.int .i64 y, .slice uBA ub.length uBC, .slice uTA ut.length uTC] 38)).alloc (.cells #[.slice SA T.length SC, .slice none 0 0] 25)) = V := ⟨_, rfl⟩
  obtain ⟨hb, kf, kl, kq⟩ := boxes3 _ _ _ _ hw8
  rw [hw8]
  clear hw8 m0 m1 m2 m3 m4 m5 m6 m7 m8 m9
  have hgf := HB.out.size
  clear z0 z1 z2
  replace HB := Lib.hid (on_below HB.out hb)
  replace HV := Lib.hid (HV.out.below hb)
  replace HQ := Lib.hid (HQ.out.below hb)
  replace p0 := keepc hb p0
  replace p1 := keepc hb p1
  replace e0 := keepc hb e0
  replace e1 := keepc hb e1
  replace e2 := keepc hb e2
  replace t0 := keepc hb t0
  replace t1 := keepc hb t1
  replace kp := blk_on kp hb
  replace ke := blk_on ke hb
  replace lp := Nat.lt_of_lt_of_le lp hb.size
  replace le := Nat.lt_of_lt_of_le le hb.size
  replace lt := Nat.lt_of_lt_of_le lt hb.size
  clear hb
  generalize w7.heap.size = gf at hgf kf kl kq ⊢
  generalize (some (⟨b0, o0, none⟩ : Addr)) = B at *
  have hqb : gf + 1 + 1 < w8.heap.size := (Array.getElem?_eq_some_iff.1 kq).1
  have hpq : Pbx w8 (gf + 1 + 1) := ⟨_, _, _, _, _, _, _, kq⟩
  have HD := Lib.hid (show Dq w8 (gf + 1 + 1) (.slice SA T.length SC) w ([]) (0) (.slice none 0 0) w8 from ⟨fun _ _ _ => rfl, kq, World.ownsRow_nil _ _ _ _, HB.out, Nat.le_refl _, hqb, by omega⟩)
  have hpn : w.heap.size ≠ gf + 1 + 1 := by omega
  have kpS : ∀ U : World, (∀ b, b < w8.heap.size → b ≠ gf + 1 + 1 → U.heap[b]? = w8.heap[b]?) → U.cell? ⟨w.heap.size, 1, none⟩ = some (.slice B M.length D) := fun U he => cell_off he hpn p1
  have HVS := Lib.hid (fun (U : World) (he : ∀ b, b < w8.heap.size → b ≠ gf + 1 + 1 → U.heap[b]? = w8.heap[b]?) => SvS.off he HV.out hpq)
  have HEe0 := Lib.hid (fun (U : World) (he : ∀ b, b < w8.heap.size → b ≠ gf + 1 + 1 → U.heap[b]? = w8.heap[b]?) => cell_off he (pbx_ne hpq e0) e0)
  have HEe1 := Lib.hid (fun (U : World) (he : ∀ b, b < w8.heap.size → b ≠ gf + 1 + 1 → U.heap[b]? = w8.heap[b]?) => cell_off he (pbx_ne hpq e1) e1)
  have HEe2 := Lib.hid (fun (U : World) (he : ∀ b, b < w8.heap.size → b ≠ gf + 1 + 1 → U.heap[b]? = w8.heap[b]?) => cell_off he (pbx_ne hpq e2) e2)
  have HEt0 := Lib.hid (fun (U : World) (he : ∀ b, b < w8.heap.size → b ≠ gf + 1 + 1 → U.heap[b]? = w8.heap[b]?) => cell_off he (pbx_ne hpq t0) t0)
  have HEt1 := Lib.hid (fun (U : World) (he : ∀ b, b < w8.heap.size → b ≠ gf + 1 + 1 → U.heap[b]? = w8.heap[b]?) => cell_off he (pbx_ne hpq t1) t1)
  have HKF := Lib.hid (fun (U : World) (he : ∀ b, b < w8.heap.size → b ≠ gf + 1 + 1 → U.heap[b]? = w8.heap[b]?) => cells3 ((he gf (Array.getElem?_eq_some_iff.1 kf).1 (by omega)).trans kf))
  have HKL := Lib.hid (fun (U : World) (he : ∀ b, b < w8.heap.size → b ≠ gf + 1 + 1 → U.heap[b]? = w8.heap[b]?) => cells3 ((he (gf + 1) (Array.getElem?_eq_some_iff.1 kl).1 (by omega)).trans kl))
  have HQS := Lib.hid (fun (U : World) (he : ∀ b, b < w8.heap.size → b ≠ gf + 1 + 1 → U.heap[b]? = w8.heap[b]?) => BdS.off he HQ.out hpq)
  have HPN := Lib.hid (And.intro hpn hgf)
  clear p0 p1 e0 e1 e2 t0 t1 lp le lt kp ke kf kl kq HV HQ hpn hgf HB CT q0 q1 q2 wa1 wa2 wb1 wb2 hm HMI
  obtain ⟨i1, hi1, hy0, hy1, hy2⟩ := info_of (show (Try.prog.info? 38).map (fun i => (i.zero, i.size, i.bytes)) = some (some (.agg #[.int .i64 0, .slice none 0 0, .slice none 0 0]), 3, 56) by kernel_rfl)
  have s1_ : (kk : Int) ≤ (M.length : Int) := by omega
  have s2_ : (0 : Int) ≤ (kk : Int) := by omega
  have s3_ : (kk : Int) ≤ (D : Int) := by have := HDC.out.1; omega
  have s4_ : kk ≤ D := by have := HDC.out.1; omega
  have s5_ := map_zero B D
  have hd1 := HDC.out.1
  have hd2 := HDC.out.2
  have s7_ : (M.length : Int) ≤ (D : Int) := by omega
  refine wp_region_held_drew (S := fun V => V.cell? ⟨w.heap.size, 1, none⟩ = some (.slice B M.length D)) (by kernel_rfl) (kpS _ HD.out.drew.he) fun HL_ => ?_
  refine wpAnyH_take (i := 0) (v := .pointer (some ⟨gf + 1 + 1, 1, none⟩)) rfl (by kernel_rfl) (by kernel_rfl) (by kernel_rfl) (fun _ _ _ h => h) (Or.inl ⟨by kernel_rfl, ?_⟩) HL_ ?_
  · rintro Wl s0
    go_simp
  simp only [Act.put, List.getElem_toArray, List.getElem_cons_succ, List.getElem_cons_zero, List.setIfInBounds_toArray, List.set_cons_zero, List.set_cons_succ]
  refine wpAnyH_take (i := 2) (v := .pointer (some ⟨w.heap.size, 1, none⟩)) rfl (by kernel_rfl) (by kernel_rfl) (by kernel_rfl) (fun _ _ _ h => h) (Or.inl ⟨by kernel_rfl, ?_⟩) HL_ ?_
  · rintro Wl s0
    go_simp
  simp only [Act.put, List.getElem_toArray, List.getElem_cons_succ, List.getElem_cons_zero, List.setIfInBounds_toArray, List.set_cons_zero, List.set_cons_succ]
  refine wpAnyH_take (i := 3) (v := .slice B M.length D) rfl (by kernel_rfl) (by kernel_rfl) (by kernel_rfl) (fun _ _ _ h => h) (Or.inl ⟨by kernel_rfl, ?_⟩) HL_ ?_
  · rintro Wl s0
    go_simp
  simp only [Act.put, List.getElem_toArray, List.getElem_cons_succ, List.getElem_cons_zero, List.setIfInBounds_toArray, List.set_cons_zero, List.set_cons_succ]
  refine wpAnyH_take (i := 4) (v := .int .i64 kk) rfl (by kernel_rfl) (by kernel_rfl) (by kernel_rfl) (fun _ _ _ h => h) (Or.inl ⟨by kernel_rfl, ?_⟩) HL_ ?_
  · rintro Wl s0
    go_simp
  simp only [Act.put, List.getElem_toArray, List.getElem_cons_succ, List.getElem_cons_zero, List.setIfInBounds_toArray, List.set_cons_zero, List.set_cons_succ]
  refine wpAnyH_take (i := 5) (v := .slice B kk D) rfl (by kernel_rfl) (by kernel_rfl) (by kernel_rfl) (fun _ _ _ h => h) (Or.inl ⟨by kernel_rfl, ?_⟩) HL_ ?_
  · rintro Wl s0
    go_simp
  simp only [Act.put, List.getElem_toArray, List.getElem_cons_succ, List.getElem_cons_zero, List.setIfInBounds_toArray, List.set_cons_zero, List.set_cons_succ]
  refine wpAnyH_ready (rs := [1]) (by kernel_rfl) (by simp) ?_
  refine AllReadyH.cons (o := _) rfl (fun K hK => ?_) AllReadyH.nil
  have ud : w8.drew.cell? ⟨gf + 1 + 1, 1, none⟩ = some (.slice none 0 0) := (two_cells HD.out.drew.q).2.1
  go_simp
  refine hK.out _ _ (kpS _ HD.out.drew.he) fun HL_ => ?_
  clear hK K ud
  refine wpAnyH_ready (rs := [6]) (by kernel_rfl) (by simp) ?_
  refine AllReadyH.cons (o := _) rfl (fun K hK => ?_) AllReadyH.nil
  refine step_app _ (by rfl) _ _ _ (by rfl) w8.heap.size 38 i1 _ 3 56 Try.underlying23 hi1 hy0 hy1 hy2 rfl (by decide) _ 0 ([]) (by rfl) HD.out.drew.own B kk D (flt svc X) (by rfl) (by rw [flt_len svc_len, HXL.out]) (svs_src (HX1.out _ _ (HVS.out _ HD.out.drew.he))) (flt_one svc_one X) (by unfold maxLen; omega) (by omega) HD.out.drew.le ?_
  intro v1 u15 own1 gr1
  refine hK.out _ _ (kpS _ (fun b hb hn => (HD.out.drew.grow gr1 b hb).trans (HD.out.drew.he b hb hn))) fun HL_ => ?_
  clear hK K
  have own2 : u15.ownsRow w8.heap.size 38 3 v1 (kk) (flt svc (X)) := by
    have h := own1
    rw [Nat.zero_add, List.nil_append] at h
    exact h
  clear own1
  obtain ⟨vA, vC, hv1⟩ := own_slice own2
  subst hv1
  obtain ⟨x0, x1, fx0, fx1⟩ := two_cells ((HD.out.drew.grow gr1 _ hqb).trans HD.out.drew.q)
  have HD2 := Lib.hid (HD.out.drew.put gr1 own2)
  clear own2 gr1
  refine wpAnyH_take (i := 7) (v := .pointer (some ⟨gf + 1 + 1, 1, none⟩)) rfl (by kernel_rfl) (by kernel_rfl) (by kernel_rfl) (fun _ _ _ h => h) (Or.inl ⟨by kernel_rfl, ?_⟩) HL_ ?_
  · rintro Wl s0
    go_simp
  simp only [Act.put, List.getElem_toArray, List.getElem_cons_succ, List.getElem_cons_zero, List.setIfInBounds_toArray, List.set_cons_zero, List.set_cons_succ]
  refine wpAnyH_ready (rs := [8]) (by kernel_rfl) (by simp) ?_
  refine AllReadyH.cons (o := _) rfl (fun K hK => ?_) AllReadyH.nil
  go_simp
  refine hK.out _ _ (kpS _ HD2.out.he) fun HL_ => ?_
  clear hK K x0 x1 fx0 fx1 HD
  refine wpAnyH_done (by kernel_rfl) ?_ _
  clear HL_
  have HD := HD2
  clear HD2
  generalize u15.setCell ⟨gf + 1 + 1, 1, none⟩ (.slice vA (kk) vC) = w9 at *
  clear s1_ s2_ s3_ s4_ s5_
  obtain ⟨q0_, q1_, _, _⟩ := two_cells HD.out.q
  obtain ⟨kf0, kf1, kf2⟩ := HKF.out _ HD.out.he
  obtain ⟨kl0, kl1, kl2⟩ := HKL.out _ HD.out.he
  go_wp2_with (at_builtin; refine wpList_app _ rfl (.tmp 97) (.tmp 100) 23 rfl w8.heap.size 38 i1 _ 3 56 Try.underlying23 hi1 hy0 hy1 hy2 rfl (by decide) _ kk (flt svc X) rfl (HD.out.alloc _).own (some ⟨w9.heap.size, 0, none⟩) 2 2 (flt svc [(⟨x, uBA, uBC, ub, uTA, uTC, ut⟩ : Sv), (⟨y, uBA, uBC, ub, uTA, uTC, ut⟩ : Sv)]) rfl rfl (src_new w9 #[.int .i64 x, .slice uBA ub.length uBC, .slice uTA ut.length uTC, .int .i64 y, .slice uBA ub.length uBC, .slice uTA ut.length uTC] 38) (flt_one svc_one _) (by unfold maxLen; omega) (by omega) (HD.out.alloc _).le ?_; intro v1 u16 own1 gr1; obtain ⟨vA2, vC2, hv1⟩ := own_slice own1; subst hv1; obtain ⟨x0, x1, fx0, fx1⟩ := two_cells (((HD.out.alloc _).grow gr1 _ hqb).trans (HD.out.alloc _).q); have HD2 := Lib.hid ((HD.out.alloc _).put (L' := X ++ [(⟨x, uBA, uBC, ub, uTA, uTC, ut⟩ : Sv), (⟨y, uBA, uBC, ub, uTA, uTC, ut⟩ : Sv)]) gr1 (by have h := own1; rw [flt_app] at h; exact h)); clear gr1 own1 q0_ q1_ kf0 kf1 kf2 kl0 kl1 kl2)
  clear x0 x1 fx0 fx1 HD
  have HD := HD2
  clear HD2
  generalize u16.setCell ⟨gf + 1 + 1, 1, none⟩ (.slice vA2 (kk + 2) vC2) = w10 at *
  obtain ⟨k1, hk1⟩ : ∃ k, kk + 1 = k := ⟨_, rfl⟩
  have r0_ : (kk : Int) + 1 = (k1 : Int) := by omega
  have r3_ : (k1 : Int) ≤ (M.length : Int) := by omega
  have r4_ : (0 : Int) ≤ (k1 : Int) := by omega
  have r5_ : (k1 : Int) ≤ (D : Int) := by omega
  have r6_ : k1 ≤ M.length := by omega
  have r7_ : k1 ≤ D := by omega
  obtain ⟨Z, hZd⟩ : ∃ Z, M.drop k1 = Z := ⟨_, rfl⟩
  have r8_ : M.length - k1 = Z.length := by rw [← hZd, List.length_drop]
  have r9_ : (if D = k1 then B else B.map fun x => x.add (k1 * 3)) = adr B D k1 3 := adr_eq r7_
  have HZ1 := Lib.hid (fun (W : World) (A : Option Addr) (h : SvS W A M) => (hZd ▸ h.drop k1 D hd1 : SvS W (adr A D k1 3) Z))
  have HZD := Lib.hid hZd
  have HK1 := Lib.hid hk1
  have mm1_ : kk + 2 + Z.length ≤ maxLen := by unfold maxLen; omega
  have mm2_ : (kk + 2 + Z.length) * 56 ≤ 140737488355328 := by omega
  have rb_ : -9223372036854775808 ≤ (k1 : Int) ∧ (k1 : Int) ≤ 9223372036854775807 := ⟨by omega, by omega⟩
  clear hZd hk1
  have r1_ : IntKind.i64.wrap ((kk : Int) + 1) = (k1 : Int) := by rw [r0_]; exact IntWalk.i64_in _ rb_
  have r2_ : wrap64 ((kk : Int) + 1) = (k1 : Int) := by rw [r0_]; exact IntWalk.wrap64_in _ rb_
  clear r0_ rb_
  refine wp_region_held_drew (S := fun V => V.cell? ⟨w.heap.size, 1, none⟩ = some (.slice B M.length D)) (by kernel_rfl) (kpS _ HD.out.drew.he) fun HL_ => ?_
  refine wpAnyH_take (i := 0) (v := .pointer (some ⟨gf + 1 + 1, 1, none⟩)) rfl (by kernel_rfl) (by kernel_rfl) (by kernel_rfl) (fun _ _ _ h => h) (Or.inl ⟨by kernel_rfl, ?_⟩) HL_ ?_
  · rintro Wl s0
    go_simp
  simp only [Act.put, List.getElem_toArray, List.getElem_cons_succ, List.getElem_cons_zero, List.setIfInBounds_toArray, List.set_cons_zero, List.set_cons_succ]
  refine wpAnyH_take (i := 2) (v := .pointer (some ⟨w.heap.size, 1, none⟩)) rfl (by kernel_rfl) (by kernel_rfl) (by kernel_rfl) (fun _ _ _ h => h) (Or.inl ⟨by kernel_rfl, ?_⟩) HL_ ?_
  · rintro Wl s0
    go_simp
  simp only [Act.put, List.getElem_toArray, List.getElem_cons_succ, List.getElem_cons_zero, List.setIfInBounds_toArray, List.set_cons_zero, List.set_cons_succ]
  refine wpAnyH_take (i := 3) (v := .slice B M.length D) rfl (by kernel_rfl) (by kernel_rfl) (by kernel_rfl) (fun _ _ _ h => h) (Or.inl ⟨by kernel_rfl, ?_⟩) HL_ ?_
  · rintro Wl s0
    go_simp
  simp only [Act.put, List.getElem_toArray, List.getElem_cons_succ, List.getElem_cons_zero, List.setIfInBounds_toArray, List.set_cons_zero, List.set_cons_succ]
  refine wpAnyH_take (i := 4) (v := .int .i64 kk) rfl (by kernel_rfl) (by kernel_rfl) (by kernel_rfl) (fun _ _ _ h => h) (Or.inl ⟨by kernel_rfl, ?_⟩) HL_ ?_
  · rintro Wl s0
    go_simp
  simp only [Act.put, List.getElem_toArray, List.getElem_cons_succ, List.getElem_cons_zero, List.setIfInBounds_toArray, List.set_cons_zero, List.set_cons_succ]
  refine wpAnyH_take (i := 5) (v := .int .i64 k1) rfl (by kernel_rfl) (by kernel_rfl) (by kernel_rfl) (fun _ _ _ h => h) (Or.inl ⟨by kernel_rfl, ?_⟩) HL_ ?_
  · rintro Wl s0
    go_simp
  simp only [Act.put, List.getElem_toArray, List.getElem_cons_succ, List.getElem_cons_zero, List.setIfInBounds_toArray, List.set_cons_zero, List.set_cons_succ]
  refine wpAnyH_take (i := 6) (v := .slice (adr B D k1 3) Z.length (D - k1)) rfl (by kernel_rfl) (by kernel_rfl) (by kernel_rfl) (fun _ _ _ h => h) (Or.inl ⟨by kernel_rfl, ?_⟩) HL_ ?_
  · rintro Wl s0
    go_simp
  simp only [Act.put, List.getElem_toArray, List.getElem_cons_succ, List.getElem_cons_zero, List.setIfInBounds_toArray, List.set_cons_zero, List.set_cons_succ]
  refine wpAnyH_ready (rs := [1]) (by kernel_rfl) (by simp) ?_
  refine AllReadyH.cons (o := _) rfl (fun K hK => ?_) AllReadyH.nil
  have ud : w10.drew.cell? ⟨gf + 1 + 1, 1, none⟩ = some (.slice vA2 (kk + 2) vC2) := (two_cells HD.out.drew.q).2.1
  go_simp
  refine hK.out _ _ (kpS _ HD.out.drew.he) fun HL_ => ?_
  clear hK K ud
  refine wpAnyH_ready (rs := [7]) (by kernel_rfl) (by simp) ?_
  refine AllReadyH.cons (o := _) rfl (fun K hK => ?_) AllReadyH.nil
  refine step_app _ (by rfl) _ _ _ (by rfl) w8.heap.size 38 i1 _ 3 56 Try.underlying23 hi1 hy0 hy1 hy2 rfl (by decide) _ (kk + 2) (flt svc (X ++ [(⟨x, uBA, uBC, ub, uTA, uTC, ut⟩ : Sv), (⟨y, uBA, uBC, ub, uTA, uTC, ut⟩ : Sv)])) (by rfl) HD.out.drew.own (adr B D k1 3) Z.length (D - k1) (flt svc Z) (by rfl) (flt_len svc_len Z) (svs_src (HZ1.out _ _ (HVS.out _ HD.out.drew.he))) (flt_one svc_one Z) mm1_ mm2_ HD.out.drew.le ?_
  intro v1 u17 own1 gr1
  refine hK.out _ _ (kpS _ (fun b hb hn => (HD.out.drew.grow gr1 b hb).trans (HD.out.drew.he b hb hn))) fun HL_ => ?_
  clear hK K
  have own2 : u17.ownsRow w8.heap.size 38 3 v1 (kk + 2 + Z.length) (flt svc ((X ++ [(⟨x, uBA, uBC, ub, uTA, uTC, ut⟩ : Sv), (⟨y, uBA, uBC, ub, uTA, uTC, ut⟩ : Sv)]) ++ Z)) := by
    have h := own1
    rw [flt_app] at h
    exact h
  clear own1
  obtain ⟨vA, vC, hv1⟩ := own_slice own2
  subst hv1
  obtain ⟨x0, x1, fx0, fx1⟩ := two_cells ((HD.out.drew.grow gr1 _ hqb).trans HD.out.drew.q)
  have HD2 := Lib.hid (HD.out.drew.put gr1 own2)
  clear own2 gr1
  refine wpAnyH_take (i := 8) (v := .pointer (some ⟨gf + 1 + 1, 1, none⟩)) rfl (by kernel_rfl) (by kernel_rfl) (by kernel_rfl) (fun _ _ _ h => h) (Or.inl ⟨by kernel_rfl, ?_⟩) HL_ ?_
  · rintro Wl s0
    go_simp
  simp only [Act.put, List.getElem_toArray, List.getElem_cons_succ, List.getElem_cons_zero, List.setIfInBounds_toArray, List.set_cons_zero, List.set_cons_succ]
  refine wpAnyH_ready (rs := [9]) (by kernel_rfl) (by simp) ?_
  refine AllReadyH.cons (o := _) rfl (fun K hK => ?_) AllReadyH.nil
  go_simp
  refine hK.out _ _ (kpS _ HD2.out.he) fun HL_ => ?_
  clear hK K x0 x1 fx0 fx1 HD
  refine wpAnyH_done (by kernel_rfl) ?_ _
  clear HL_
  have HD := HD2
  clear HD2
  generalize u17.setCell ⟨gf + 1 + 1, 1, none⟩ (.slice vA (kk + 2 + Z.length) vC) = w11 at *
  clear r1_ r2_ mm1_ mm2_
  have hJ : (X ++ [(⟨x, uBA, uBC, ub, uTA, uTC, ut⟩ : Sv), (⟨y, uBA, uBC, ub, uTA, uTC, ut⟩ : Sv)]) ++ Z = dvd M kk (⟨x, uBA, uBC, ub, uTA, uTC, ut⟩ : Sv) (⟨y, uBA, uBC, ub, uTA, uTC, ut⟩ : Sv) := by
    rw [← HXD.out, ← HZD.out, ← HK1.out]
    rfl
  rw [hJ] at HD
  have hJl : (dvd M kk (⟨x, uBA, uBC, ub, uTA, uTC, ut⟩ : Sv) (⟨y, uBA, uBC, ub, uTA, uTC, ut⟩ : Sv)).length = M.length + 1 := dvd_len hkl
  have hml : kk + 2 + Z.length = M.length + 1 := by have := HK1.out; omega
  skip
  have hml2 : kk + 2 + Z.length = (dvd M kk (⟨x, uBA, uBC, ub, uTA, uTC, ut⟩ : Sv) (⟨y, uBA, uBC, ub, uTA, uTC, ut⟩ : Sv)).length := by omega
  rw [hml2] at HD ⊢
  have hts := HT.out
  have hM1 : ∀ k, k < M.length → BdS w11 (gdV M k).BA (gdV M k).bs ∧ S4 w11 (gdV M k).TA (gdV M k).ts := fun k hk => by
    obtain ⟨_, _, _, _, _, _, h4, h5⟩ := HVS.out _ HD.out.he k hk
    exact ⟨h4, h5⟩
  have hM2 := hM1 kk hkl
  rw [HSC.out] at hM2
  have hall := all_gdV (P := fun s => BdS w11 s.BA s.bs ∧ S4 w11 s.TA s.ts) |>.2 (dvd_all (x := (⟨x, uBA, uBC, ub, uTA, uTC, ut⟩ : Sv)) (y := (⟨y, uBA, uBC, ub, uTA, uTC, ut⟩ : Sv)) (k := kk) (all_gdV (P := fun s => BdS w11 s.BA s.bs ∧ S4 w11 s.TA s.ts) |>.1 hM1) hM2 hM2)
  have hB2 := HBL.out kk hkl
  rw [HSC.out] at hB2
  have hbl := all_gdV (P := fun s => s.bs.length ≤ 6 ∧ s.ts.length ≤ 8) |>.2 (dvd_all (x := (⟨x, uBA, uBC, ub, uTA, uTC, ut⟩ : Sv)) (y := (⟨y, uBA, uBC, ub, uTA, uTC, ut⟩ : Sv)) (k := kk) (all_gdV (P := fun s => s.bs.length ≤ 6 ∧ s.ts.length ≤ 8) |>.1 HBL.out) hB2 hB2)
  have hTd : TotR T (dvd M kk (⟨x, uBA, uBC, ub, uTA, uTC, ut⟩ : Sv) (⟨y, uBA, uBC, ub, uTA, uTC, ut⟩ : Sv)) ex ey ez Q n d 0 := tot_dvd hts hM4 hkl (by rw [HSC.out]; exact HXY.out.1) HXY.out.2.1 HXY.out.2.2 (by rw [HSC.out]) (by rw [HSC.out]) (by rw [HSC.out]) (by rw [HSC.out])
  generalize dvd M kk (⟨x, uBA, uBC, ub, uTA, uTC, ut⟩ : Sv) (⟨y, uBA, uBC, ub, uTA, uTC, ut⟩ : Sv) = J at *
  obtain ⟨A9, C9, e9, _, _, hs9⟩ := own_svs2 HD.out.own hall
  simp only [Value.slice.injEq] at e9
  obtain ⟨rfl, _, rfl⟩ := e9
  have CT2 := Lib.hid (total_is SA SC T vA vC J ex ey ez BQ DQ Q ⟨by omega, by omega, fun k hk => by have := (hbl k hk).1; omega, fun k hk => by have := (hbl k hk).2; omega⟩ (by omega) n d 0 hTd w11 hs9 (HS.out.below HD.out.bel) (HQS.out _ HD.out.he))
  obtain ⟨q0_, q1_, _, _⟩ := two_cells HD.out.q
  have e0 := HEe0.out _ HD.out.he
  have e1 := HEe1.out _ HD.out.he
  have e2 := HEe2.out _ HD.out.he
  have t0 := HEt0.out _ HD.out.he
  have t1 := HEt1.out _ HD.out.he
  clear r3_ r4_ r5_ r6_ r7_ r8_ r9_ hJ hml hml2 hts hM1 hM2 hall hB2 hbl hTd hs9 hJl
  have er := fun W => rat_eq (a := n) (b := d) (x := n) (y := d) (r := true) (by simp) W
  go_wp2_with fail
  with_reducible refine CT2.out.mono ?_
  rintro e_ w90 ⟨rfl, hb⟩
  have HB := Lib.hid (on_below HD.out.bel hb)
  replace t0 := keepc hb t0
  replace t1 := keepc hb t1
  clear hb CT2 HD e0 e1 e2 q0_ q1_
  have lt0_ := block_lt t0
  go_wp2_with fail
  go_ret
  exact ⟨rfl, on_below HB.out (below_new _ _)⟩
theorem law_any (SA : Option Addr) (SC : Nat) (S : List Bv) (NA : Option Addr) (NC : Nat) (N : List Sv) (ex ey ez : Int) (OA : Option Addr) (OC : Nat) (O : List Bv) (at_ : Int) (ha : 0 ≤ at_ ∧ at_ ≤ 255) (mi : Int) (hmi : 0 ≤ mi ∧ mi ≤ 255) (w : World) (lS : LC w SA SC S) (lN : LV w NA NC N) (lO : LC w OA OC O) :
    Calls Try.prog 3 #[.agg #[.slice SA S.length SC, .slice NA N.length NC], .agg #[.int .i64 ex, .int .i64 ey, .int .i64 ez], .slice OA O.length OC, .int .u8 at_, .int .u8 mi] w fun e_ w' => e_ = .returned (.bool true) ∧ Below w.heap.size w w' := by
  obtain ⟨E, hE⟩ := sce_ex (S.take 6) (fewl N) ex ey ez (cutl O)
  by_cases h0 : E = 0
  · subst h0
    obtain ⟨h1, h2⟩ := sce_zero hE
    have hT : TotR (S.take 6) (fewl N) ex ey ez (cutl O) _ _ 0 := Or.inr ⟨rfl, h1, h2, rfl, rfl⟩
    have hp : 0 < (fewl N).length := h1.1.1
    have e1 : Int.tmod at_ ((fewl N).length : Int) = at_ % ((fewl N).length : Int) := Int.tmod_eq_emod_of_nonneg ha.1
    have e2 := Int.emod_nonneg at_ (show ((fewl N).length : Int) ≠ 0 by omega)
    have e3 := Int.emod_lt_of_pos at_ (show 0 < ((fewl N).length : Int) by omega)
    have hkl : (at_ % ((fewl N).length : Int)).toNat < (fewl N).length := by omega
    have hkk : Int.tmod at_ ((fewl N).length : Int) = (((at_ % ((fewl N).length : Int)).toNat : Nat) : Int) := by rw [e1]; omega
    obtain ⟨m1, m2, _⟩ := h1.1.2.2.2.2 _ hkl
    by_cases hm : (gdV (fewl N) (at_ % ((fewl N).length : Int)).toNat).m = 1
    · exact dv_1 SA SC S NA NC N ex ey ez OA OC O at_ mi ha hmi _ _ _ ⟨rfl, rfl, rfl⟩ _ _ hT _ hkk hkl hm w lS lN lO
    · exact dv_2 SA SC S NA NC N ex ey ez OA OC O at_ mi ha hmi _ _ _ ⟨rfl, rfl, rfl⟩ _ _ hT _ hkk hkl ⟨by omega, m2⟩ w lS lN lO
  · exact dv_0 SA SC S NA NC N ex ey ez OA OC O at_ mi ha hmi _ _ _ ⟨rfl, rfl, rfl⟩ E hE h0 w lS lN lO
end Go.Proofs.Ytiffgcipdamngaa.LawDivided
