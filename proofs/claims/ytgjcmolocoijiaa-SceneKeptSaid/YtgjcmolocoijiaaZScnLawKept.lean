/-
  SceneKept.
-/
import Derived.Test.YtgjcmolocoijiaaZScnZX
import Derived.Test.YtgjcmolocoijiaaRows
import Derived.ProofKit
import Derived.OpenShut
import Derived.Deep.DeepHandedRow
import Derived.Deep.DeepWitnessRowRef
import Derived.MakeChecks
import Derived.Deep.DeepCutAuto
namespace Go.Proofs.Ytgjcmolocoijiaa.LawKept
open Go.RowKit Go.Sort
open Go.RowKit (Below)
set_option linter.unusedVariables false
set_option linter.unusedSimpArgs false
attribute [local go_sem] Oper.semAt_some

theorem vld_i {n d : Int} (h : vld n d = true) : I64 n ∧ I64 d := by
  obtain ⟨h1, h2, h3, h4, _⟩ := (vld_iff n d).1 h
  exact ⟨⟨by omega, by omega⟩, by omega, by omega⟩
section
variable {T : List Bv} {M : List Sv} {ex ey ez : Int} {Q : List Bv} {n d wn wd wi : Int}
theorem kept_own (h : TotR T M ex ey ez Q n d 0) : KpR T M ex ey ez Q n d true 0 := by
  refine Or.inr ⟨(tot_vld h).1, n, d, h, Or.inr ⟨rfl, ?_⟩⟩
  unfold sgn
  rw [if_neg (by omega), if_neg (by omega)]
  rfl
theorem kept_least (h : TotR T M ex ey ez Q n d 0) (k : WorR T M ex ey ez Q wn wd wi 0) : vld wn wd = true ∧ KpR T M ex ey ez Q wn wd true 0 ∧ 0 ≤ wi ∧ wi < M.length := by
  obtain ⟨v1, hok, hlm, ht, hm, e1, e2⟩ := tot_vld h
  rcases k with ⟨k, _⟩ | ⟨_, _, _, k1, k2, k3⟩
  · exact absurd rfl k
  have hsco := hok.1.2.2.2.2
  have hl := hok.1.1
  have hf := fle_le (shn ex ey ez T Q) M M.length hl
  have hb := shn_bd ex ey ez T Q (hsco _ hf).2.2.1
  have hv : vld wn wd = true := by rw [← k1, ← k2]; exact q_vld (by omega) ⟨by omega, by omega⟩ (by omega)
  refine ⟨hv, Or.inr ⟨hv, n, d, h, Or.inr ⟨rfl, ?_⟩⟩, by omega, by omega⟩
  have hg := avg_ge (f := shn ex ey ez T Q) (fun k hk => (hsco k hk).1) (fun k hk => fle_min (shn ex ey ez T Q) M M.length k hk) M.length (Nat.le_refl _)
  rw [← e1, ← e2, ← k1, ← k2, sgn_q (by omega) (by omega)]
  generalize tsum (shn ex ey ez T Q) M M.length = a at *
  generalize msum M M.length = b at *
  generalize shn ex ey ez T Q (gdV M (fle (shn ex ey ez T Q) M M.length)) = c at *
  have : ¬ a * 100 < c * (100 * b) := by
    have e : c * (100 * b) = 100 * (c * b) := by grind
    omega
  unfold sgn
  rw [if_neg this]
  split <;> rfl
end
set_option maxRecDepth 100000 in
set_option maxHeartbeats 4000000 in
theorem kept_0 (SA : Option Addr) (SC : Nat) (S : List Bv) (NA : Option Addr) (NC : Nat) (N : List Sv) (ex ey ez : Int) (OA : Option Addr) (OC : Nat) (O : List Bv) (rn rd : Int) (irn : I64 rn) (ird : I64 rd) (T : List Bv) (M : List Sv) (Q : List Bv) (hX : Cutx S N O T M Q) (E : Int) (hE : ScE T M ex ey ez Q E) (h0 : E ≠ 0) (w : World) (lS : LC w SA SC S) (lN : LV w NA NC N) (lO : LC w OA OC O) :
    Calls Try.prog 8 #[.agg #[.slice SA S.length SC, .slice NA N.length NC], .agg #[.int .i64 ex, .int .i64 ey, .int .i64 ez], .slice OA O.length OC, .agg #[.int .i64 rn, .int .i64 rd]] w fun e_ w' => e_ = .returned (.bool true) ∧ Below w.heap.size w w' := by
  have CT := Lib.hid (fun B D BQ DQ W (a : SvS W B M) (b : BdS W SA T) (c : BdS W BQ Q) => total_is SA SC T B D M ex ey ez BQ DQ Q hX.sml (by have := hX.ql; omega) 0 0 E (Or.inl ⟨h0, hE, rfl, rfl⟩) W a b c)
  have CW := Lib.hid (fun B D BQ DQ W (a : SvS W B M) (b : BdS W SA T) (c : BdS W BQ Q) => worst_is SA SC T B D M ex ey ez BQ DQ Q hX.sml (by have := hX.ql; omega) 0 0 0 E (Or.inl ⟨h0, hE, rfl, rfl, rfl⟩) W a b c)
  have z0 : (E != 0) = true := by simp [h0]
  have z1 : (E == E) = true := by simp
  clear hE h0 irn ird
  have CF := Lib.hid (fun W (h : SvS W NA N) => few11_is SA SC S NA NC N lS.cap (Nat.le_trans lN.cap.1 lN.cap.2) lN.ca M hX.m T.length (by rw [hX.t]) W h)
  have CQ := Lib.hid (fun W (h : BdS W OA O) => cut_is OA OC O (Nat.le_trans lO.cap.1 lO.cap.2) lO.ca Q hX.q W h)
  have HS := Lib.hid (show BdS w SA T from hX.t ▸ lS.sl.take 6)
  have HN := Lib.hid lN.sl
  have HO := Lib.hid lO.sl
  have hTl := hX.tl
  have hMl := hX.ml
  have hQl := hX.ql
  clear lS lN lO hX
  go_enter Try.func8, Try.ntmps8
  go_wp2_with fail
  obtain ⟨w1, hw1⟩ : ∃ V, (((w.alloc (.cells #[.slice SA S.length SC, .slice NA N.length NC] 25)).alloc (.cells #[.int .i64 ex, .int .i64 ey, .int .i64 ez] 27)).alloc (.cells #[.int .i64 rn, .int .i64 rd] 36)) = V := ⟨_, rfl⟩
  obtain ⟨hB_, kp, ke, kr⟩ := boxes3 _ _ _ _ hw1
  rw [hw1]
  clear hw1
  have HB := Lib.hid hB_
  clear hB_
  have p0 := (two_cells kp).1
  have p1 := (two_cells kp).2.1
  have lp := block_lt p0
  have e0 := (cells3 ke).1
  have e1 := (cells3 ke).2.1
  have e2 := (cells3 ke).2.2
  have le := block_lt e0
  have r0 := (two_cells kr).1
  have r1 := (two_cells kr).2.1
  have lr := block_lt r0
  with_reducible refine (head11_any _).mono ?_
  rintro e_ w2 ⟨rfl, hb⟩
  replace HB := Lib.hid (on_below HB.out hb)
  replace p0 := keepc hb p0
  replace p1 := keepc hb p1
  replace e0 := keepc hb e0
  replace e1 := keepc hb e1
  replace e2 := keepc hb e2
  replace r0 := keepc hb r0
  replace r1 := keepc hb r1
  replace kp := blk_on kp hb
  replace ke := blk_on ke hb
  replace kr := blk_on kr hb
  replace lp := Nat.lt_of_lt_of_le lp hb.size
  replace le := Nat.lt_of_lt_of_le le hb.size
  replace lr := Nat.lt_of_lt_of_le lr hb.size
  clear hb
  go_wp2_with fail
  with_reducible refine (CF.out _ (HN.out.below HB.out)).mono ?_
  rintro e_ w3 ⟨B, ⟨D, rfl⟩, hsv, hb⟩
  replace HB := Lib.hid (on_below HB.out hb)
  replace p0 := keepc hb p0
  replace p1 := keepc hb p1
  replace e0 := keepc hb e0
  replace e1 := keepc hb e1
  replace e2 := keepc hb e2
  replace r0 := keepc hb r0
  replace r1 := keepc hb r1
  replace kp := blk_on kp hb
  replace ke := blk_on ke hb
  replace kr := blk_on kr hb
  replace lp := Nat.lt_of_lt_of_le lp hb.size
  replace le := Nat.lt_of_lt_of_le le hb.size
  replace lr := Nat.lt_of_lt_of_le lr hb.size
  clear hb
  have hpx : Pbx w3 w.heap.size := ⟨_, _, _, _, _, _, _, kp⟩
  have fp0 : World.frozen? w3 ⟨w.heap.size, 0, none⟩ = false := by simp [World.frozen?, kp]
  have fp1 : World.frozen? w3 ⟨w.heap.size, 1, none⟩ = false := by simp [World.frozen?, kp]
  go_wp2_with fail
  clear CF fp0 fp1 p0 p1 e0 e1 e2 r0 r1 lp le lr
  have HV := Lib.hid (show SvS ((w3.setCell ⟨w.heap.size, 0, none⟩ (.slice SA T.length SC)).setCell ⟨w.heap.size, 1, none⟩ (.slice B M.length D)) B M from hsv.far hpx)
  clear hsv hpx
  replace kp : ((w3.setCell ⟨w.heap.size, 0, none⟩ (.slice SA T.length SC)).setCell ⟨w.heap.size, 1, none⟩ (.slice B M.length D)).heap[w.heap.size]? = some (.cells #[.slice SA T.length SC, .slice B M.length D] 25 (0, 0)) := set_cells (set_cells kp 0 _) 1 _
  replace ke : ((w3.setCell ⟨w.heap.size, 0, none⟩ (.slice SA T.length SC)).setCell ⟨w.heap.size, 1, none⟩ (.slice B M.length D)).heap[w.heap.size + 1]? = _ := blk_far (blk_far ke (by omega)) (by omega)
  replace kr : ((w3.setCell ⟨w.heap.size, 0, none⟩ (.slice SA T.length SC)).setCell ⟨w.heap.size, 1, none⟩ (.slice B M.length D)).heap[w.heap.size + 1 + 1]? = _ := blk_far (blk_far kr (by omega)) (by omega)
  replace HB := Lib.hid (show Below w.heap.size w ((w3.setCell ⟨w.heap.size, 0, none⟩ (.slice SA T.length SC)).setCell ⟨w.heap.size, 1, none⟩ (.slice B M.length D)) from (HB.out.setCell (by simp <;> omega) _).setCell (by simp <;> omega) _)
  generalize ((w3.setCell ⟨w.heap.size, 0, none⟩ (.slice SA T.length SC)).setCell ⟨w.heap.size, 1, none⟩ (.slice B M.length D)) = w4 at *
  have p0 := (two_cells kp).1
  have p1 := (two_cells kp).2.1
  have lp := block_lt p0
  have e0 := (cells3 ke).1
  have e1 := (cells3 ke).2.1
  have e2 := (cells3 ke).2.2
  have le := block_lt e0
  have r0 := (two_cells kr).1
  have r1 := (two_cells kr).2.1
  have lr := block_lt r0
  with_reducible refine (CQ.out _ (HO.out.below HB.out)).mono ?_
  rintro e_ w5 ⟨BQ, ⟨DQ, rfl⟩, hq, hb⟩
  replace HB := Lib.hid (on_below HB.out hb)
  replace HV := Lib.hid (HV.out.below hb)
  replace p0 := keepc hb p0
  replace p1 := keepc hb p1
  replace e0 := keepc hb e0
  replace e1 := keepc hb e1
  replace e2 := keepc hb e2
  replace r0 := keepc hb r0
  replace r1 := keepc hb r1
  replace kp := blk_on kp hb
  replace ke := blk_on ke hb
  replace kr := blk_on kr hb
  replace lp := Nat.lt_of_lt_of_le lp hb.size
  replace le := Nat.lt_of_lt_of_le le hb.size
  replace lr := Nat.lt_of_lt_of_le lr hb.size
  clear hb
  clear CQ
  have HQ := Lib.hid hq
  clear hq
  go_wp2_with fail
  with_reducible refine (CT.out B D BQ DQ _ HV.out (HS.out.below HB.out) HQ.out).mono ?_
  rintro e_ w6 ⟨rfl, hb⟩
  replace HB := Lib.hid (on_below HB.out hb)
  replace HV := Lib.hid (HV.out.below hb)
  replace HQ := Lib.hid (HQ.out.below hb)
  replace p0 := keepc hb p0
  replace p1 := keepc hb p1
  replace e0 := keepc hb e0
  replace e1 := keepc hb e1
  replace e2 := keepc hb e2
  replace r0 := keepc hb r0
  replace r1 := keepc hb r1
  replace kp := blk_on kp hb
  replace ke := blk_on ke hb
  replace kr := blk_on kr hb
  replace lp := Nat.lt_of_lt_of_le lp hb.size
  replace le := Nat.lt_of_lt_of_le le hb.size
  replace lr := Nat.lt_of_lt_of_le lr hb.size
  clear hb
  go_wp2_with fail
  have t0 : World.cell? (w6.alloc (.cells #[.int .i64 0, .int .i64 0] 36)) ⟨w6.heap.size, 0, none⟩ = some (.int .i64 0) := by simp [go_sem]
  have t1 : World.cell? (w6.alloc (.cells #[.int .i64 0, .int .i64 0] 36)) ⟨w6.heap.size, 1, none⟩ = some (.int .i64 0) := by simp [go_sem]
  have lt : w6.heap.size < (w6.alloc (.cells #[.int .i64 0, .int .i64 0] 36)).heap.size := by simp
  have hb : Below w6.heap.size w6 (w6.alloc (.cells #[.int .i64 0, .int .i64 0] 36)) := below_new _ _
  generalize w6.alloc (.cells #[.int .i64 0, .int .i64 0] 36) = w7 at *
  replace HB := Lib.hid (on_below HB.out hb)
  replace HV := Lib.hid (HV.out.below hb)
  replace HQ := Lib.hid (HQ.out.below hb)
  replace p0 := keepc hb p0
  replace p1 := keepc hb p1
  replace e0 := keepc hb e0
  replace e1 := keepc hb e1
  replace e2 := keepc hb e2
  replace r0 := keepc hb r0
  replace r1 := keepc hb r1
  replace kp := blk_on kp hb
  replace ke := blk_on ke hb
  replace kr := blk_on kr hb
  replace lp := Nat.lt_of_lt_of_le lp hb.size
  replace le := Nat.lt_of_lt_of_le le hb.size
  replace lr := Nat.lt_of_lt_of_le lr hb.size
  clear hb
  generalize w6.heap.size = gt at *
  with_reducible refine (CW.out B D BQ DQ _ HV.out (HS.out.below HB.out) HQ.out).mono ?_
  rintro e_ w8 ⟨rfl, hb⟩
  replace HB := Lib.hid (on_below HB.out hb)
  replace HV := Lib.hid (HV.out.below hb)
  replace HQ := Lib.hid (HQ.out.below hb)
  replace p0 := keepc hb p0
  replace p1 := keepc hb p1
  replace e0 := keepc hb e0
  replace e1 := keepc hb e1
  replace e2 := keepc hb e2
  replace r0 := keepc hb r0
  replace r1 := keepc hb r1
  replace t0 := keepc hb t0
  replace t1 := keepc hb t1
  replace kp := blk_on kp hb
  replace ke := blk_on ke hb
  replace kr := blk_on kr hb
  replace lp := Nat.lt_of_lt_of_le lp hb.size
  replace le := Nat.lt_of_lt_of_le le hb.size
  replace lr := Nat.lt_of_lt_of_le lr hb.size
  replace lt := Nat.lt_of_lt_of_le lt hb.size
  clear hb
  go_wp2_with fail
  have u0 : World.cell? (w8.alloc (.cells #[.int .i64 0, .int .i64 0] 36)) ⟨w8.heap.size, 0, none⟩ = some (.int .i64 0) := by simp [go_sem]
  have u1 : World.cell? (w8.alloc (.cells #[.int .i64 0, .int .i64 0] 36)) ⟨w8.heap.size, 1, none⟩ = some (.int .i64 0) := by simp [go_sem]
  have lu : w8.heap.size < (w8.alloc (.cells #[.int .i64 0, .int .i64 0] 36)).heap.size := by simp
  have hb : Below w8.heap.size w8 (w8.alloc (.cells #[.int .i64 0, .int .i64 0] 36)) := below_new _ _
  generalize w8.alloc (.cells #[.int .i64 0, .int .i64 0] 36) = w9 at *
  replace HB := Lib.hid (on_below HB.out hb)
  replace HV := Lib.hid (HV.out.below hb)
  replace HQ := Lib.hid (HQ.out.below hb)
  replace p0 := keepc hb p0
  replace p1 := keepc hb p1
  replace e0 := keepc hb e0
  replace e1 := keepc hb e1
  replace e2 := keepc hb e2
  replace r0 := keepc hb r0
  replace r1 := keepc hb r1
  replace t0 := keepc hb t0
  replace t1 := keepc hb t1
  replace kp := blk_on kp hb
  replace ke := blk_on ke hb
  replace kr := blk_on kr hb
  replace lp := Nat.lt_of_lt_of_le lp hb.size
  replace le := Nat.lt_of_lt_of_le le hb.size
  replace lr := Nat.lt_of_lt_of_le lr hb.size
  replace lt := Nat.lt_of_lt_of_le lt hb.size
  clear hb
  generalize w8.heap.size = gu at *
  go_ret
  exact ⟨rfl, HB.out⟩
set_option maxRecDepth 100000 in
set_option maxHeartbeats 4000000 in
theorem kept_1 (SA : Option Addr) (SC : Nat) (S : List Bv) (NA : Option Addr) (NC : Nat) (N : List Sv) (ex ey ez : Int) (OA : Option Addr) (OC : Nat) (O : List Bv) (rn rd : Int) (irn : I64 rn) (ird : I64 rd) (T : List Bv) (M : List Sv) (Q : List Bv) (hX : Cutx S N O T M Q) (n d wn wd wi : Int) (hT : TotR T M ex ey ez Q n d 0) (hW : WorR T M ex ey ez Q wn wd wi 0) (hv : vld rn rd = false) (w : World) (lS : LC w SA SC S) (lN : LV w NA NC N) (lO : LC w OA OC O) :
    Calls Try.prog 8 #[.agg #[.slice SA S.length SC, .slice NA N.length NC], .agg #[.int .i64 ex, .int .i64 ey, .int .i64 ez], .slice OA O.length OC, .agg #[.int .i64 rn, .int .i64 rd]] w fun e_ w' => e_ = .returned (.bool true) ∧ Below w.heap.size w w' := by
  obtain ⟨hwv, hkl, hw0, hw1⟩ := kept_least hT hW
  have hnd := vld_i (tot_vld hT).1
  have hwd := vld_i hwv
  have CT := Lib.hid (fun B D BQ DQ W (a : SvS W B M) (b : BdS W SA T) (c : BdS W BQ Q) => total_is SA SC T B D M ex ey ez BQ DQ Q hX.sml (by have := hX.ql; omega) n d 0 hT W a b c)
  have CW := Lib.hid (fun B D BQ DQ W (a : SvS W B M) (b : BdS W SA T) (c : BdS W BQ Q) => worst_is SA SC T B D M ex ey ez BQ DQ Q hX.sml (by have := hX.ql; omega) wn wd wi 0 hW W a b c)
  have K1 := Lib.hid (fun B D BQ DQ W (a : SvS W B M) (b : BdS W SA T) (c : BdS W BQ Q) => keeps_is SA SC T B D M ex ey ez BQ DQ Q hX.sml (by have := hX.ql; omega) n d hnd.1 hnd.2 true 0 (kept_own hT) W a b c)
  have K2 := Lib.hid (fun B D BQ DQ W (a : SvS W B M) (b : BdS W SA T) (c : BdS W BQ Q) => keeps_is SA SC T B D M ex ey ez BQ DQ Q hX.sml (by have := hX.ql; omega) wn wd hwd.1 hwd.2 true 0 hkl W a b c)
  have K3 := Lib.hid (fun B D BQ DQ W (a : SvS W B M) (b : BdS W SA T) (c : BdS W BQ Q) => keeps_is SA SC T B D M ex ey ez BQ DQ Q hX.sml (by have := hX.ql; omega) rn rd irn ird false 1 (Or.inl ⟨hv, rfl, rfl⟩) W a b c)
  have CC := Lib.hid (fun W => cmp_any rn rd n d W irn ird hnd.1 hnd.2)
  rw [show (vld rn rd && vld n d) = false by rw [hv]; rfl] at CC
  simp only [cmpR, cmpE, Bool.false_eq_true, if_false] at CC
  have d0 : decide (wi < 0) = false := decide_eq_false (by omega)
  have d1 : decide ((M.length : Int) ≤ wi) = false := decide_eq_false (by omega)
  clear hT hW hwv hkl hw0 hw1 hnd hwd hv irn ird
  have CF := Lib.hid (fun W (h : SvS W NA N) => few11_is SA SC S NA NC N lS.cap (Nat.le_trans lN.cap.1 lN.cap.2) lN.ca M hX.m T.length (by rw [hX.t]) W h)
  have CQ := Lib.hid (fun W (h : BdS W OA O) => cut_is OA OC O (Nat.le_trans lO.cap.1 lO.cap.2) lO.ca Q hX.q W h)
  have HS := Lib.hid (show BdS w SA T from hX.t ▸ lS.sl.take 6)
  have HN := Lib.hid lN.sl
  have HO := Lib.hid lO.sl
  have hTl := hX.tl
  have hMl := hX.ml
  have hQl := hX.ql
  clear lS lN lO hX
  go_enter Try.func8, Try.ntmps8
  go_wp2_with fail
  obtain ⟨w1, hw1⟩ : ∃ V, (((w.alloc (.cells #[.slice SA S.length SC, .slice NA N.length NC] 25)).alloc (.cells #[.int .i64 ex, .int .i64 ey, .int .i64 ez] 27)).alloc (.cells #[.int .i64 rn, .int .i64 rd] 36)) = V := ⟨_, rfl⟩
  obtain ⟨hB_, kp, ke, kr⟩ := boxes3 _ _ _ _ hw1
  rw [hw1]
  clear hw1
  have HB := Lib.hid hB_
  clear hB_
  have p0 := (two_cells kp).1
  have p1 := (two_cells kp).2.1
  have lp := block_lt p0
  have e0 := (cells3 ke).1
  have e1 := (cells3 ke).2.1
  have e2 := (cells3 ke).2.2
  have le := block_lt e0
  have r0 := (two_cells kr).1
  have r1 := (two_cells kr).2.1
  have lr := block_lt r0
  with_reducible refine (head11_any _).mono ?_
  rintro e_ w2 ⟨rfl, hb⟩
  replace HB := Lib.hid (on_below HB.out hb)
  replace p0 := keepc hb p0
  replace p1 := keepc hb p1
  replace e0 := keepc hb e0
  replace e1 := keepc hb e1
  replace e2 := keepc hb e2
  replace r0 := keepc hb r0
  replace r1 := keepc hb r1
  replace kp := blk_on kp hb
  replace ke := blk_on ke hb
  replace kr := blk_on kr hb
  replace lp := Nat.lt_of_lt_of_le lp hb.size
  replace le := Nat.lt_of_lt_of_le le hb.size
  replace lr := Nat.lt_of_lt_of_le lr hb.size
  clear hb
  go_wp2_with fail
  with_reducible refine (CF.out _ (HN.out.below HB.out)).mono ?_
  rintro e_ w3 ⟨B, ⟨D, rfl⟩, hsv, hb⟩
  replace HB := Lib.hid (on_below HB.out hb)
  replace p0 := keepc hb p0
  replace p1 := keepc hb p1
  replace e0 := keepc hb e0
  replace e1 := keepc hb e1
  replace e2 := keepc hb e2
  replace r0 := keepc hb r0
  replace r1 := keepc hb r1
  replace kp := blk_on kp hb
  replace ke := blk_on ke hb
  replace kr := blk_on kr hb
  replace lp := Nat.lt_of_lt_of_le lp hb.size
  replace le := Nat.lt_of_lt_of_le le hb.size
  replace lr := Nat.lt_of_lt_of_le lr hb.size
  clear hb
  have hpx : Pbx w3 w.heap.size := ⟨_, _, _, _, _, _, _, kp⟩
  have fp0 : World.frozen? w3 ⟨w.heap.size, 0, none⟩ = false := by simp [World.frozen?, kp]
  have fp1 : World.frozen? w3 ⟨w.heap.size, 1, none⟩ = false := by simp [World.frozen?, kp]
  go_wp2_with fail
  clear CF fp0 fp1 p0 p1 e0 e1 e2 r0 r1 lp le lr
  have HV := Lib.hid (show SvS ((w3.setCell ⟨w.heap.size, 0, none⟩ (.slice SA T.length SC)).setCell ⟨w.heap.size, 1, none⟩ (.slice B M.length D)) B M from hsv.far hpx)
  clear hsv hpx
  replace kp : ((w3.setCell ⟨w.heap.size, 0, none⟩ (.slice SA T.length SC)).setCell ⟨w.heap.size, 1, none⟩ (.slice B M.length D)).heap[w.heap.size]? = some (.cells #[.slice SA T.length SC, .slice B M.length D] 25 (0, 0)) := set_cells (set_cells kp 0 _) 1 _
  replace ke : ((w3.setCell ⟨w.heap.size, 0, none⟩ (.slice SA T.length SC)).setCell ⟨w.heap.size, 1, none⟩ (.slice B M.length D)).heap[w.heap.size + 1]? = _ := blk_far (blk_far ke (by omega)) (by omega)
  replace kr : ((w3.setCell ⟨w.heap.size, 0, none⟩ (.slice SA T.length SC)).setCell ⟨w.heap.size, 1, none⟩ (.slice B M.length D)).heap[w.heap.size + 1 + 1]? = _ := blk_far (blk_far kr (by omega)) (by omega)
  replace HB := Lib.hid (show Below w.heap.size w ((w3.setCell ⟨w.heap.size, 0, none⟩ (.slice SA T.length SC)).setCell ⟨w.heap.size, 1, none⟩ (.slice B M.length D)) from (HB.out.setCell (by simp <;> omega) _).setCell (by simp <;> omega) _)
  generalize ((w3.setCell ⟨w.heap.size, 0, none⟩ (.slice SA T.length SC)).setCell ⟨w.heap.size, 1, none⟩ (.slice B M.length D)) = w4 at *
  have p0 := (two_cells kp).1
  have p1 := (two_cells kp).2.1
  have lp := block_lt p0
  have e0 := (cells3 ke).1
  have e1 := (cells3 ke).2.1
  have e2 := (cells3 ke).2.2
  have le := block_lt e0
  have r0 := (two_cells kr).1
  have r1 := (two_cells kr).2.1
  have lr := block_lt r0
  with_reducible refine (CQ.out _ (HO.out.below HB.out)).mono ?_
  rintro e_ w5 ⟨BQ, ⟨DQ, rfl⟩, hq, hb⟩
  replace HB := Lib.hid (on_below HB.out hb)
  replace HV := Lib.hid (HV.out.below hb)
  replace p0 := keepc hb p0
  replace p1 := keepc hb p1
  replace e0 := keepc hb e0
  replace e1 := keepc hb e1
  replace e2 := keepc hb e2
  replace r0 := keepc hb r0
  replace r1 := keepc hb r1
  replace kp := blk_on kp hb
  replace ke := blk_on ke hb
  replace kr := blk_on kr hb
  replace lp := Nat.lt_of_lt_of_le lp hb.size
  replace le := Nat.lt_of_lt_of_le le hb.size
  replace lr := Nat.lt_of_lt_of_le lr hb.size
  clear hb
  clear CQ
  have HQ := Lib.hid hq
  clear hq
  go_wp2_with fail
  with_reducible refine (CT.out B D BQ DQ _ HV.out (HS.out.below HB.out) HQ.out).mono ?_
  rintro e_ w6 ⟨rfl, hb⟩
  replace HB := Lib.hid (on_below HB.out hb)
  replace HV := Lib.hid (HV.out.below hb)
  replace HQ := Lib.hid (HQ.out.below hb)
  replace p0 := keepc hb p0
  replace p1 := keepc hb p1
  replace e0 := keepc hb e0
  replace e1 := keepc hb e1
  replace e2 := keepc hb e2
  replace r0 := keepc hb r0
  replace r1 := keepc hb r1
  replace kp := blk_on kp hb
  replace ke := blk_on ke hb
  replace kr := blk_on kr hb
  replace lp := Nat.lt_of_lt_of_le lp hb.size
  replace le := Nat.lt_of_lt_of_le le hb.size
  replace lr := Nat.lt_of_lt_of_le lr hb.size
  clear hb
  go_wp2_with fail
  have t0 : World.cell? (w6.alloc (.cells #[.int .i64 n, .int .i64 d] 36)) ⟨w6.heap.size, 0, none⟩ = some (.int .i64 n) := by simp [go_sem]
  have t1 : World.cell? (w6.alloc (.cells #[.int .i64 n, .int .i64 d] 36)) ⟨w6.heap.size, 1, none⟩ = some (.int .i64 d) := by simp [go_sem]
  have lt : w6.heap.size < (w6.alloc (.cells #[.int .i64 n, .int .i64 d] 36)).heap.size := by simp
  have hb : Below w6.heap.size w6 (w6.alloc (.cells #[.int .i64 n, .int .i64 d] 36)) := below_new _ _
  generalize w6.alloc (.cells #[.int .i64 n, .int .i64 d] 36) = w7 at *
  replace HB := Lib.hid (on_below HB.out hb)
  replace HV := Lib.hid (HV.out.below hb)
  replace HQ := Lib.hid (HQ.out.below hb)
  replace p0 := keepc hb p0
  replace p1 := keepc hb p1
  replace e0 := keepc hb e0
  replace e1 := keepc hb e1
  replace e2 := keepc hb e2
  replace r0 := keepc hb r0
  replace r1 := keepc hb r1
  replace kp := blk_on kp hb
  replace ke := blk_on ke hb
  replace kr := blk_on kr hb
  replace lp := Nat.lt_of_lt_of_le lp hb.size
  replace le := Nat.lt_of_lt_of_le le hb.size
  replace lr := Nat.lt_of_lt_of_le lr hb.size
  clear hb
  generalize w6.heap.size = gt at *
  with_reducible refine (CW.out B D BQ DQ _ HV.out (HS.out.below HB.out) HQ.out).mono ?_
  rintro e_ w8 ⟨rfl, hb⟩
  replace HB := Lib.hid (on_below HB.out hb)
  replace HV := Lib.hid (HV.out.below hb)
  replace HQ := Lib.hid (HQ.out.below hb)
  replace p0 := keepc hb p0
  replace p1 := keepc hb p1
  replace e0 := keepc hb e0
  replace e1 := keepc hb e1
  replace e2 := keepc hb e2
  replace r0 := keepc hb r0
  replace r1 := keepc hb r1
  replace t0 := keepc hb t0
  replace t1 := keepc hb t1
  replace kp := blk_on kp hb
  replace ke := blk_on ke hb
  replace kr := blk_on kr hb
  replace lp := Nat.lt_of_lt_of_le lp hb.size
  replace le := Nat.lt_of_lt_of_le le hb.size
  replace lr := Nat.lt_of_lt_of_le lr hb.size
  replace lt := Nat.lt_of_lt_of_le lt hb.size
  clear hb
  go_wp2_with fail
  have u0 : World.cell? (w8.alloc (.cells #[.int .i64 wn, .int .i64 wd] 36)) ⟨w8.heap.size, 0, none⟩ = some (.int .i64 wn) := by simp [go_sem]
  have u1 : World.cell? (w8.alloc (.cells #[.int .i64 wn, .int .i64 wd] 36)) ⟨w8.heap.size, 1, none⟩ = some (.int .i64 wd) := by simp [go_sem]
  have lu : w8.heap.size < (w8.alloc (.cells #[.int .i64 wn, .int .i64 wd] 36)).heap.size := by simp
  have hb : Below w8.heap.size w8 (w8.alloc (.cells #[.int .i64 wn, .int .i64 wd] 36)) := below_new _ _
  generalize w8.alloc (.cells #[.int .i64 wn, .int .i64 wd] 36) = w9 at *
  replace HB := Lib.hid (on_below HB.out hb)
  replace HV := Lib.hid (HV.out.below hb)
  replace HQ := Lib.hid (HQ.out.below hb)
  replace p0 := keepc hb p0
  replace p1 := keepc hb p1
  replace e0 := keepc hb e0
  replace e1 := keepc hb e1
  replace e2 := keepc hb e2
  replace r0 := keepc hb r0
  replace r1 := keepc hb r1
  replace t0 := keepc hb t0
  replace t1 := keepc hb t1
  replace kp := blk_on kp hb
  replace ke := blk_on ke hb
  replace kr := blk_on kr hb
  replace lp := Nat.lt_of_lt_of_le lp hb.size
  replace le := Nat.lt_of_lt_of_le le hb.size
  replace lr := Nat.lt_of_lt_of_le lr hb.size
  replace lt := Nat.lt_of_lt_of_le lt hb.size
  clear hb
  generalize w8.heap.size = gu at *
  with_reducible refine (K1.out B D BQ DQ _ HV.out (HS.out.below HB.out) HQ.out).mono ?_
  rintro e_ w10 ⟨rfl, hb⟩
  replace HB := Lib.hid (on_below HB.out hb)
  replace HV := Lib.hid (HV.out.below hb)
  replace HQ := Lib.hid (HQ.out.below hb)
  replace p0 := keepc hb p0
  replace p1 := keepc hb p1
  replace e0 := keepc hb e0
  replace e1 := keepc hb e1
  replace e2 := keepc hb e2
  replace r0 := keepc hb r0
  replace r1 := keepc hb r1
  replace t0 := keepc hb t0
  replace t1 := keepc hb t1
  replace u0 := keepc hb u0
  replace u1 := keepc hb u1
  replace kp := blk_on kp hb
  replace ke := blk_on ke hb
  replace kr := blk_on kr hb
  replace lp := Nat.lt_of_lt_of_le lp hb.size
  replace le := Nat.lt_of_lt_of_le le hb.size
  replace lr := Nat.lt_of_lt_of_le lr hb.size
  replace lt := Nat.lt_of_lt_of_le lt hb.size
  replace lu := Nat.lt_of_lt_of_le lu hb.size
  clear hb
  go_wp2_with fail
  with_reducible refine (K2.out B D BQ DQ _ HV.out (HS.out.below HB.out) HQ.out).mono ?_
  rintro e_ w11 ⟨rfl, hb⟩
  replace HB := Lib.hid (on_below HB.out hb)
  replace HV := Lib.hid (HV.out.below hb)
  replace HQ := Lib.hid (HQ.out.below hb)
  replace p0 := keepc hb p0
  replace p1 := keepc hb p1
  replace e0 := keepc hb e0
  replace e1 := keepc hb e1
  replace e2 := keepc hb e2
  replace r0 := keepc hb r0
  replace r1 := keepc hb r1
  replace t0 := keepc hb t0
  replace t1 := keepc hb t1
  replace u0 := keepc hb u0
  replace u1 := keepc hb u1
  replace kp := blk_on kp hb
  replace ke := blk_on ke hb
  replace kr := blk_on kr hb
  replace lp := Nat.lt_of_lt_of_le lp hb.size
  replace le := Nat.lt_of_lt_of_le le hb.size
  replace lr := Nat.lt_of_lt_of_le lr hb.size
  replace lt := Nat.lt_of_lt_of_le lt hb.size
  replace lu := Nat.lt_of_lt_of_le lu hb.size
  clear hb
  go_wp2_with fail
  with_reducible refine (K3.out B D BQ DQ _ HV.out (HS.out.below HB.out) HQ.out).mono ?_
  rintro e_ w12 ⟨rfl, hb⟩
  replace HB := Lib.hid (on_below HB.out hb)
  replace HV := Lib.hid (HV.out.below hb)
  replace HQ := Lib.hid (HQ.out.below hb)
  replace p0 := keepc hb p0
  replace p1 := keepc hb p1
  replace e0 := keepc hb e0
  replace e1 := keepc hb e1
  replace e2 := keepc hb e2
  replace r0 := keepc hb r0
  replace r1 := keepc hb r1
  replace t0 := keepc hb t0
  replace t1 := keepc hb t1
  replace u0 := keepc hb u0
  replace u1 := keepc hb u1
  replace kp := blk_on kp hb
  replace ke := blk_on ke hb
  replace kr := blk_on kr hb
  replace lp := Nat.lt_of_lt_of_le lp hb.size
  replace le := Nat.lt_of_lt_of_le le hb.size
  replace lr := Nat.lt_of_lt_of_le lr hb.size
  replace lt := Nat.lt_of_lt_of_le lt hb.size
  replace lu := Nat.lt_of_lt_of_le lu hb.size
  clear hb
  go_wp2_with fail
  with_reducible refine (CC.out _).mono ?_
  rintro e_ w13 ⟨rfl, hb⟩
  replace HB := Lib.hid (on_below HB.out hb)
  replace HV := Lib.hid (HV.out.below hb)
  replace HQ := Lib.hid (HQ.out.below hb)
  replace p0 := keepc hb p0
  replace p1 := keepc hb p1
  replace e0 := keepc hb e0
  replace e1 := keepc hb e1
  replace e2 := keepc hb e2
  replace r0 := keepc hb r0
  replace r1 := keepc hb r1
  replace t0 := keepc hb t0
  replace t1 := keepc hb t1
  replace u0 := keepc hb u0
  replace u1 := keepc hb u1
  replace kp := blk_on kp hb
  replace ke := blk_on ke hb
  replace kr := blk_on kr hb
  replace lp := Nat.lt_of_lt_of_le lp hb.size
  replace le := Nat.lt_of_lt_of_le le hb.size
  replace lr := Nat.lt_of_lt_of_le lr hb.size
  replace lt := Nat.lt_of_lt_of_le lt hb.size
  replace lu := Nat.lt_of_lt_of_le lu hb.size
  clear hb
  go_wp2_with fail
  go_ret
  exact ⟨rfl, HB.out⟩
set_option maxRecDepth 100000 in
set_option maxHeartbeats 4000000 in
theorem kept_2 (SA : Option Addr) (SC : Nat) (S : List Bv) (NA : Option Addr) (NC : Nat) (N : List Sv) (ex ey ez : Int) (OA : Option Addr) (OC : Nat) (O : List Bv) (rn rd : Int) (irn : I64 rn) (ird : I64 rd) (T : List Bv) (M : List Sv) (Q : List Bv) (hX : Cutx S N O T M Q) (n d wn wd wi : Int) (hT : TotR T M ex ey ez Q n d 0) (hW : WorR T M ex ey ez Q wn wd wi 0) (hv : vld rn rd = true) (s : Int) (r : Bool) (hs : sgn (rn * d) (n * rd) = s) (hr : decide (s ≤ 0) = r) (w : World) (lS : LC w SA SC S) (lN : LV w NA NC N) (lO : LC w OA OC O) :
    Calls Try.prog 8 #[.agg #[.slice SA S.length SC, .slice NA N.length NC], .agg #[.int .i64 ex, .int .i64 ey, .int .i64 ez], .slice OA O.length OC, .agg #[.int .i64 rn, .int .i64 rd]] w fun e_ w' => e_ = .returned (.bool true) ∧ Below w.heap.size w w' := by
  obtain ⟨hwv, hkl, hw0, hw1⟩ := kept_least hT hW
  have hnd := vld_i (tot_vld hT).1
  have hwd := vld_i hwv
  have CT := Lib.hid (fun B D BQ DQ W (a : SvS W B M) (b : BdS W SA T) (c : BdS W BQ Q) => total_is SA SC T B D M ex ey ez BQ DQ Q hX.sml (by have := hX.ql; omega) n d 0 hT W a b c)
  have CW := Lib.hid (fun B D BQ DQ W (a : SvS W B M) (b : BdS W SA T) (c : BdS W BQ Q) => worst_is SA SC T B D M ex ey ez BQ DQ Q hX.sml (by have := hX.ql; omega) wn wd wi 0 hW W a b c)
  have K1 := Lib.hid (fun B D BQ DQ W (a : SvS W B M) (b : BdS W SA T) (c : BdS W BQ Q) => keeps_is SA SC T B D M ex ey ez BQ DQ Q hX.sml (by have := hX.ql; omega) n d hnd.1 hnd.2 true 0 (kept_own hT) W a b c)
  have K2 := Lib.hid (fun B D BQ DQ W (a : SvS W B M) (b : BdS W SA T) (c : BdS W BQ Q) => keeps_is SA SC T B D M ex ey ez BQ DQ Q hX.sml (by have := hX.ql; omega) wn wd hwd.1 hwd.2 true 0 hkl W a b c)
  have K3 := Lib.hid (fun B D BQ DQ W (a : SvS W B M) (b : BdS W SA T) (c : BdS W BQ Q) => keeps_is SA SC T B D M ex ey ez BQ DQ Q hX.sml (by have := hX.ql; omega) rn rd irn ird r 0 (Or.inr ⟨hv, n, d, hT, Or.inr ⟨rfl, by rw [← hr, ← hs]; simp only [decide_eq_decide]; unfold sgn; (repeat' split) <;> omega⟩⟩) W a b c)
  have CC := Lib.hid (fun W => cmp_any rn rd n d W irn ird hnd.1 hnd.2)
  rw [show (vld rn rd && vld n d) = true by rw [hv, (tot_vld hT).1]; rfl] at CC
  simp only [cmpR, cmpE, if_true] at CC
  rw [hs] at CC
  have hr2 : (r == r) = true := by simp
  have d0 : decide (wi < 0) = false := decide_eq_false (by omega)
  have d1 : decide ((M.length : Int) ≤ wi) = false := decide_eq_false (by omega)
  clear hT hW hwv hkl hw0 hw1 hnd hwd hv irn ird hs
  have CF := Lib.hid (fun W (h : SvS W NA N) => few11_is SA SC S NA NC N lS.cap (Nat.le_trans lN.cap.1 lN.cap.2) lN.ca M hX.m T.length (by rw [hX.t]) W h)
  have CQ := Lib.hid (fun W (h : BdS W OA O) => cut_is OA OC O (Nat.le_trans lO.cap.1 lO.cap.2) lO.ca Q hX.q W h)
  have HS := Lib.hid (show BdS w SA T from hX.t ▸ lS.sl.take 6)
  have HN := Lib.hid lN.sl
  have HO := Lib.hid lO.sl
  have hTl := hX.tl
  have hMl := hX.ml
  have hQl := hX.ql
  clear lS lN lO hX
  go_enter Try.func8, Try.ntmps8
  go_wp2_with fail
  obtain ⟨w1, hw1⟩ : ∃ V, (((w.alloc (.cells #[.slice SA S.length SC, .slice NA N.length NC] 25)).alloc (.cells #[.int .i64 ex, .int .i64 ey, .int .i64 ez] 27)).alloc (.cells #[.int .i64 rn, .int .i64 rd] 36)) = V := ⟨_, rfl⟩
  obtain ⟨hB_, kp, ke, kr⟩ := boxes3 _ _ _ _ hw1
  rw [hw1]
  clear hw1
  have HB := Lib.hid hB_
  clear hB_
  have p0 := (two_cells kp).1
  have p1 := (two_cells kp).2.1
  have lp := block_lt p0
  have e0 := (cells3 ke).1
  have e1 := (cells3 ke).2.1
  have e2 := (cells3 ke).2.2
  have le := block_lt e0
  have r0 := (two_cells kr).1
  have r1 := (two_cells kr).2.1
  have lr := block_lt r0
  with_reducible refine (head11_any _).mono ?_
  rintro e_ w2 ⟨rfl, hb⟩
  replace HB := Lib.hid (on_below HB.out hb)
  replace p0 := keepc hb p0
  replace p1 := keepc hb p1
  replace e0 := keepc hb e0
  replace e1 := keepc hb e1
  replace e2 := keepc hb e2
  replace r0 := keepc hb r0
  replace r1 := keepc hb r1
  replace kp := blk_on kp hb
  replace ke := blk_on ke hb
  replace kr := blk_on kr hb
  replace lp := Nat.lt_of_lt_of_le lp hb.size
  replace le := Nat.lt_of_lt_of_le le hb.size
  replace lr := Nat.lt_of_lt_of_le lr hb.size
  clear hb
  go_wp2_with fail
  with_reducible refine (CF.out _ (HN.out.below HB.out)).mono ?_
  rintro e_ w3 ⟨B, ⟨D, rfl⟩, hsv, hb⟩
  replace HB := Lib.hid (on_below HB.out hb)
  replace p0 := keepc hb p0
  replace p1 := keepc hb p1
  replace e0 := keepc hb e0
  replace e1 := keepc hb e1
  replace e2 := keepc hb e2
  replace r0 := keepc hb r0
  replace r1 := keepc hb r1
  replace kp := blk_on kp hb
  replace ke := blk_on ke hb
  replace kr := blk_on kr hb
  replace lp := Nat.lt_of_lt_of_le lp hb.size
  replace le := Nat.lt_of_lt_of_le le hb.size
  replace lr := Nat.lt_of_lt_of_le lr hb.size
  clear hb
  have hpx : Pbx w3 w.heap.size := ⟨_, _, _, _, _, _, _, kp⟩
  have fp0 : World.frozen? w3 ⟨w.heap.size, 0, none⟩ = false := by simp [World.frozen?, kp]
  have fp1 : World.frozen? w3 ⟨w.heap.size, 1, none⟩ = false := by simp [World.frozen?, kp]
  go_wp2_with fail
  clear CF fp0 fp1 p0 p1 e0 e1 e2 r0 r1 lp le lr
  have HV := Lib.hid (show SvS ((w3.setCell ⟨w.heap.size, 0, none⟩ (.slice SA T.length SC)).setCell ⟨w.heap.size, 1, none⟩ (.slice B M.length D)) B M from hsv.far hpx)
  clear hsv hpx
  replace kp : ((w3.setCell ⟨w.heap.size, 0, none⟩ (.slice SA T.length SC)).setCell ⟨w.heap.size, 1, none⟩ (.slice B M.length D)).heap[w.heap.size]? = some (.cells #[.slice SA T.length SC, .slice B M.length D] 25 (0, 0)) := set_cells (set_cells kp 0 _) 1 _
  replace ke : ((w3.setCell ⟨w.heap.size, 0, none⟩ (.slice SA T.length SC)).setCell ⟨w.heap.size, 1, none⟩ (.slice B M.length D)).heap[w.heap.size + 1]? = _ := blk_far (blk_far ke (by omega)) (by omega)
  replace kr : ((w3.setCell ⟨w.heap.size, 0, none⟩ (.slice SA T.length SC)).setCell ⟨w.heap.size, 1, none⟩ (.slice B M.length D)).heap[w.heap.size + 1 + 1]? = _ := blk_far (blk_far kr (by omega)) (by omega)
  replace HB := Lib.hid (show Below w.heap.size w ((w3.setCell ⟨w.heap.size, 0, none⟩ (.slice SA T.length SC)).setCell ⟨w.heap.size, 1, none⟩ (.slice B M.length D)) from (HB.out.setCell (by simp <;> omega) _).setCell (by simp <;> omega) _)
  generalize ((w3.setCell ⟨w.heap.size, 0, none⟩ (.slice SA T.length SC)).setCell ⟨w.heap.size, 1, none⟩ (.slice B M.length D)) = w4 at *
  have p0 := (two_cells kp).1
  have p1 := (two_cells kp).2.1
  have lp := block_lt p0
  have e0 := (cells3 ke).1
  have e1 := (cells3 ke).2.1
  have e2 := (cells3 ke).2.2
  have le := block_lt e0
  have r0 := (two_cells kr).1
  have r1 := (two_cells kr).2.1
  have lr := block_lt r0
  with_reducible refine (CQ.out _ (HO.out.below HB.out)).mono ?_
  rintro e_ w5 ⟨BQ, ⟨DQ, rfl⟩, hq, hb⟩
  replace HB := Lib.hid (on_below HB.out hb)
  replace HV := Lib.hid (HV.out.below hb)
  replace p0 := keepc hb p0
  replace p1 := keepc hb p1
  replace e0 := keepc hb e0
  replace e1 := keepc hb e1
  replace e2 := keepc hb e2
  replace r0 := keepc hb r0
  replace r1 := keepc hb r1
  replace kp := blk_on kp hb
  replace ke := blk_on ke hb
  replace kr := blk_on kr hb
  replace lp := Nat.lt_of_lt_of_le lp hb.size
  replace le := Nat.lt_of_lt_of_le le hb.size
  replace lr := Nat.lt_of_lt_of_le lr hb.size
  clear hb
  clear CQ
  have HQ := Lib.hid hq
  clear hq
  go_wp2_with fail
  with_reducible refine (CT.out B D BQ DQ _ HV.out (HS.out.below HB.out) HQ.out).mono ?_
  rintro e_ w6 ⟨rfl, hb⟩
  replace HB := Lib.hid (on_below HB.out hb)
  replace HV := Lib.hid (HV.out.below hb)
  replace HQ := Lib.hid (HQ.out.below hb)
  replace p0 := keepc hb p0
  replace p1 := keepc hb p1
  replace e0 := keepc hb e0
  replace e1 := keepc hb e1
  replace e2 := keepc hb e2
  replace r0 := keepc hb r0
  replace r1 := keepc hb r1
  replace kp := blk_on kp hb
  replace ke := blk_on ke hb
  replace kr := blk_on kr hb
  replace lp := Nat.lt_of_lt_of_le lp hb.size
  replace le := Nat.lt_of_lt_of_le le hb.size
  replace lr := Nat.lt_of_lt_of_le lr hb.size
  clear hb
  go_wp2_with fail
  have t0 : World.cell? (w6.alloc (.cells #[.int .i64 n, .int .i64 d] 36)) ⟨w6.heap.size, 0, none⟩ = some (.int .i64 n) := by simp [go_sem]
  have t1 : World.cell? (w6.alloc (.cells #[.int .i64 n, .int .i64 d] 36)) ⟨w6.heap.size, 1, none⟩ = some (.int .i64 d) := by simp [go_sem]
  have lt : w6.heap.size < (w6.alloc (.cells #[.int .i64 n, .int .i64 d] 36)).heap.size := by simp
  have hb : Below w6.heap.size w6 (w6.alloc (.cells #[.int .i64 n, .int .i64 d] 36)) := below_new _ _
  generalize w6.alloc (.cells #[.int .i64 n, .int .i64 d] 36) = w7 at *
  replace HB := Lib.hid (on_below HB.out hb)
  replace HV := Lib.hid (HV.out.below hb)
  replace HQ := Lib.hid (HQ.out.below hb)
  replace p0 := keepc hb p0
  replace p1 := keepc hb p1
  replace e0 := keepc hb e0
  replace e1 := keepc hb e1
  replace e2 := keepc hb e2
  replace r0 := keepc hb r0
  replace r1 := keepc hb r1
  replace kp := blk_on kp hb
  replace ke := blk_on ke hb
  replace kr := blk_on kr hb
  replace lp := Nat.lt_of_lt_of_le lp hb.size
  replace le := Nat.lt_of_lt_of_le le hb.size
  replace lr := Nat.lt_of_lt_of_le lr hb.size
  clear hb
  generalize w6.heap.size = gt at *
  with_reducible refine (CW.out B D BQ DQ _ HV.out (HS.out.below HB.out) HQ.out).mono ?_
  rintro e_ w8 ⟨rfl, hb⟩
  replace HB := Lib.hid (on_below HB.out hb)
  replace HV := Lib.hid (HV.out.below hb)
  replace HQ := Lib.hid (HQ.out.below hb)
  replace p0 := keepc hb p0
  replace p1 := keepc hb p1
  replace e0 := keepc hb e0
  replace e1 := keepc hb e1
  replace e2 := keepc hb e2
  replace r0 := keepc hb r0
  replace r1 := keepc hb r1
  replace t0 := keepc hb t0
  replace t1 := keepc hb t1
  replace kp := blk_on kp hb
  replace ke := blk_on ke hb
  replace kr := blk_on kr hb
  replace lp := Nat.lt_of_lt_of_le lp hb.size
  replace le := Nat.lt_of_lt_of_le le hb.size
  replace lr := Nat.lt_of_lt_of_le lr hb.size
  replace lt := Nat.lt_of_lt_of_le lt hb.size
  clear hb
  go_wp2_with fail
  have u0 : World.cell? (w8.alloc (.cells #[.int .i64 wn, .int .i64 wd] 36)) ⟨w8.heap.size, 0, none⟩ = some (.int .i64 wn) := by simp [go_sem]
  have u1 : World.cell? (w8.alloc (.cells #[.int .i64 wn, .int .i64 wd] 36)) ⟨w8.heap.size, 1, none⟩ = some (.int .i64 wd) := by simp [go_sem]
  have lu : w8.heap.size < (w8.alloc (.cells #[.int .i64 wn, .int .i64 wd] 36)).heap.size := by simp
  have hb : Below w8.heap.size w8 (w8.alloc (.cells #[.int .i64 wn, .int .i64 wd] 36)) := below_new _ _
  generalize w8.alloc (.cells #[.int .i64 wn, .int .i64 wd] 36) = w9 at *
  replace HB := Lib.hid (on_below HB.out hb)
  replace HV := Lib.hid (HV.out.below hb)
  replace HQ := Lib.hid (HQ.out.below hb)
  replace p0 := keepc hb p0
  replace p1 := keepc hb p1
  replace e0 := keepc hb e0
  replace e1 := keepc hb e1
  replace e2 := keepc hb e2
  replace r0 := keepc hb r0
  replace r1 := keepc hb r1
  replace t0 := keepc hb t0
  replace t1 := keepc hb t1
  replace kp := blk_on kp hb
  replace ke := blk_on ke hb
  replace kr := blk_on kr hb
  replace lp := Nat.lt_of_lt_of_le lp hb.size
  replace le := Nat.lt_of_lt_of_le le hb.size
  replace lr := Nat.lt_of_lt_of_le lr hb.size
  replace lt := Nat.lt_of_lt_of_le lt hb.size
  clear hb
  generalize w8.heap.size = gu at *
  with_reducible refine (K1.out B D BQ DQ _ HV.out (HS.out.below HB.out) HQ.out).mono ?_
  rintro e_ w10 ⟨rfl, hb⟩
  replace HB := Lib.hid (on_below HB.out hb)
  replace HV := Lib.hid (HV.out.below hb)
  replace HQ := Lib.hid (HQ.out.below hb)
  replace p0 := keepc hb p0
  replace p1 := keepc hb p1
  replace e0 := keepc hb e0
  replace e1 := keepc hb e1
  replace e2 := keepc hb e2
  replace r0 := keepc hb r0
  replace r1 := keepc hb r1
  replace t0 := keepc hb t0
  replace t1 := keepc hb t1
  replace u0 := keepc hb u0
  replace u1 := keepc hb u1
  replace kp := blk_on kp hb
  replace ke := blk_on ke hb
  replace kr := blk_on kr hb
  replace lp := Nat.lt_of_lt_of_le lp hb.size
  replace le := Nat.lt_of_lt_of_le le hb.size
  replace lr := Nat.lt_of_lt_of_le lr hb.size
  replace lt := Nat.lt_of_lt_of_le lt hb.size
  replace lu := Nat.lt_of_lt_of_le lu hb.size
  clear hb
  go_wp2_with fail
  with_reducible refine (K2.out B D BQ DQ _ HV.out (HS.out.below HB.out) HQ.out).mono ?_
  rintro e_ w11 ⟨rfl, hb⟩
  replace HB := Lib.hid (on_below HB.out hb)
  replace HV := Lib.hid (HV.out.below hb)
  replace HQ := Lib.hid (HQ.out.below hb)
  replace p0 := keepc hb p0
  replace p1 := keepc hb p1
  replace e0 := keepc hb e0
  replace e1 := keepc hb e1
  replace e2 := keepc hb e2
  replace r0 := keepc hb r0
  replace r1 := keepc hb r1
  replace t0 := keepc hb t0
  replace t1 := keepc hb t1
  replace u0 := keepc hb u0
  replace u1 := keepc hb u1
  replace kp := blk_on kp hb
  replace ke := blk_on ke hb
  replace kr := blk_on kr hb
  replace lp := Nat.lt_of_lt_of_le lp hb.size
  replace le := Nat.lt_of_lt_of_le le hb.size
  replace lr := Nat.lt_of_lt_of_le lr hb.size
  replace lt := Nat.lt_of_lt_of_le lt hb.size
  replace lu := Nat.lt_of_lt_of_le lu hb.size
  clear hb
  go_wp2_with fail
  with_reducible refine (K3.out B D BQ DQ _ HV.out (HS.out.below HB.out) HQ.out).mono ?_
  rintro e_ w12 ⟨rfl, hb⟩
  replace HB := Lib.hid (on_below HB.out hb)
  replace HV := Lib.hid (HV.out.below hb)
  replace HQ := Lib.hid (HQ.out.below hb)
  replace p0 := keepc hb p0
  replace p1 := keepc hb p1
  replace e0 := keepc hb e0
  replace e1 := keepc hb e1
  replace e2 := keepc hb e2
  replace r0 := keepc hb r0
  replace r1 := keepc hb r1
  replace t0 := keepc hb t0
  replace t1 := keepc hb t1
  replace u0 := keepc hb u0
  replace u1 := keepc hb u1
  replace kp := blk_on kp hb
  replace ke := blk_on ke hb
  replace kr := blk_on kr hb
  replace lp := Nat.lt_of_lt_of_le lp hb.size
  replace le := Nat.lt_of_lt_of_le le hb.size
  replace lr := Nat.lt_of_lt_of_le lr hb.size
  replace lt := Nat.lt_of_lt_of_le lt hb.size
  replace lu := Nat.lt_of_lt_of_le lu hb.size
  clear hb
  go_wp2_with fail
  with_reducible refine (CC.out _).mono ?_
  rintro e_ w13 ⟨rfl, hb⟩
  replace HB := Lib.hid (on_below HB.out hb)
  replace HV := Lib.hid (HV.out.below hb)
  replace HQ := Lib.hid (HQ.out.below hb)
  replace p0 := keepc hb p0
  replace p1 := keepc hb p1
  replace e0 := keepc hb e0
  replace e1 := keepc hb e1
  replace e2 := keepc hb e2
  replace r0 := keepc hb r0
  replace r1 := keepc hb r1
  replace t0 := keepc hb t0
  replace t1 := keepc hb t1
  replace u0 := keepc hb u0
  replace u1 := keepc hb u1
  replace kp := blk_on kp hb
  replace ke := blk_on ke hb
  replace kr := blk_on kr hb
  replace lp := Nat.lt_of_lt_of_le lp hb.size
  replace le := Nat.lt_of_lt_of_le le hb.size
  replace lr := Nat.lt_of_lt_of_le lr hb.size
  replace lt := Nat.lt_of_lt_of_le lt hb.size
  replace lu := Nat.lt_of_lt_of_le lu hb.size
  clear hb
  go_wp2_with fail
  go_ret
  exact ⟨rfl, HB.out⟩
theorem wor_ex {T : List Bv} {M : List Sv} {ex ey ez : Int} {Q : List Bv} (h1 : Ok3 T M ex ey ez Q) (h2 : Lim T.length Q.length M) : ∃ wn wd wi, WorR T M ex ey ez Q wn wd wi 0 := ⟨_, _, _, Or.inr ⟨rfl, h1, h2, rfl, rfl, rfl⟩⟩
theorem law_any (SA : Option Addr) (SC : Nat) (S : List Bv) (NA : Option Addr) (NC : Nat) (N : List Sv) (ex ey ez : Int) (OA : Option Addr) (OC : Nat) (O : List Bv) (rn rd : Int) (irn : I64 rn) (ird : I64 rd) (w : World) (lS : LC w SA SC S) (lN : LV w NA NC N) (lO : LC w OA OC O) :
    Calls Try.prog 8 #[.agg #[.slice SA S.length SC, .slice NA N.length NC], .agg #[.int .i64 ex, .int .i64 ey, .int .i64 ez], .slice OA O.length OC, .agg #[.int .i64 rn, .int .i64 rd]] w fun e_ w' => e_ = .returned (.bool true) ∧ Below w.heap.size w w' := by
  obtain ⟨E, hE⟩ := sce_ex (S.take 6) (fewl N) ex ey ez (cutl O)
  by_cases h0 : E = 0
  · subst h0
    obtain ⟨h1, h2⟩ := sce_zero hE
    obtain ⟨wn, wd, wi, hW⟩ := wor_ex h1 h2
    have hT : TotR (S.take 6) (fewl N) ex ey ez (cutl O) _ _ 0 := Or.inr ⟨rfl, h1, h2, rfl, rfl⟩
    cases hv : vld rn rd
    · exact kept_1 SA SC S NA NC N ex ey ez OA OC O rn rd irn ird _ _ _ ⟨rfl, rfl, rfl⟩ _ _ wn wd wi hT hW hv w lS lN lO
    · exact kept_2 SA SC S NA NC N ex ey ez OA OC O rn rd irn ird _ _ _ ⟨rfl, rfl, rfl⟩ _ _ wn wd wi hT hW hv _ _ rfl rfl w lS lN lO
  · exact kept_0 SA SC S NA NC N ex ey ez OA OC O rn rd irn ird _ _ _ ⟨rfl, rfl, rfl⟩ E hE h0 w lS lN lO
section
open Go.ChangeShapes Go.WideShapes Go.ChangeAt Go.Joins
theorem cellsRat : Try.prog.cellsOf 36 = 2 := by kernel_rfl

section
variable {H : Type} {enc : TypeId × Value → H}
/-- A pair as data. -/
abbrev datRat (a b : Int) : DataW H := .agg [.lit (.int .i64 a), .lit (.int .i64 b)]

set_option maxRecDepth 100000 in
theorem open_rat {W : World} {base : Nat} {sp : Nat → Bool} {held : Bool} {v : Value} {d : DataW H} {p : List MemPlace} (hv : Value.okWide Try.prog W .any base 36 v) (h : DataW.Trod enc Try.prog W 0 sp held 36 v d p) :
    ∃ a b : Int, v = .agg #[.int .i64 a, .int .i64 b] ∧ d = datRat a b ∧ p = [] ∧ (Lit.int .i64 a).wf = true ∧ (Lit.int .i64 b).wf = true := by
  obtain ⟨c0, c1, y0, y1, m, rfl, rfl, rfl, hy0, hy1⟩ := open_agg2 Try.underlying36 (by kernel_rfl) cellsRat hv h
  obtain ⟨a, e0, rfl, wa⟩ := DataW.trod_int Try.underlying3 hy0
  obtain ⟨b, e1, rfl, wb⟩ := DataW.trod_int Try.underlying3 hy1
  simp at e0 e1
  subst e0 e1
  exact ⟨a, b, rfl, rfl, rfl, wa, wb⟩

set_option maxRecDepth 100000 in
theorem shut_rat {W : World} {sp : Nat → Bool} {held : Bool} {a b : Int} (wa : (Lit.int .i64 a).wf = true) (wb : (Lit.int .i64 b).wf = true) :
    DataW.Trod enc Try.prog W 0 sp held 36 (.agg #[.int .i64 a, .int .i64 b]) (datRat a b) [] :=
  shut_agg2 (y0 := (.lit (.int .i64 a), [])) (y1 := (.lit (.int .i64 b), [])) Try.underlying36 (by kernel_rfl) cellsRat ⟨1, by simp [DataW.trod, Try.underlying3, wa]⟩ ⟨1, by simp [DataW.trod, Try.underlying3, wb]⟩
end
end
/-! ### The row -/
open Go.ChangeShapes Go.WideShapes Go.ChangeAt Go.Joins
theorem own : ownKnob Try.prog.godebug = none := by kernel_rfl
noncomputable def laidWorld (os : Os) : World := World.holding Try.prog os ⟨#[], #[], []⟩
theorem laidWorld_met (os : Os) (args : Array Value) : laidMet Try.prog [] ((laidWorld os).forCall (fun _ _ => 0) ⟨#[], args, []⟩).memory :=
  laidMet_of_run' 8 (by kernel_rfl) (by kernel_rfl)

set_option maxRecDepth 100000 in
theorem contract (H : Type) (enc : TypeId × Value → H) (W : World) (base : Nat) (args : Array Value) (ds gs : List (DataW H)) (before : List MemPlace)
    (hval : ∀ (j : Nat) t v, Try.f8.params[j]? = some t → args[j]? = some v → Value.okWide Try.prog W .any base t v)
    (hW : DataW.Whole enc Try.prog Try.f8.params.toList Rows.sceneKeptSpec.vars false W args.toList ds gs before) :
    Calls Try.prog 8 args W fun e W' => ∃ v, e = .returned v ∧ Rows.sceneKeptSpec.post enc Try.prog Try.f8 false true false false W args v W' := by
  have hW' := hW
  have hold : ∀ q ∈ before, decide (q.block < W.heap.size) = true := fun q hq => by simpa using hW.lt q hq
  obtain ⟨p, q, hA0, hV, rfl, hfz, hnd⟩ := hW
  have hA : DataW.TrodAll enc Try.prog W 0 (fun _ => true) true Try.f8.params.toList args.toList ds p := hA0
  rw [Try.params8] at hA hval
  obtain ⟨v0, vs0, d0, ds0, p0, q0, hargs, rfl, rfl, h0, r0⟩ := trodAll_cons hA
  obtain ⟨v1, vs1, d1, ds1, p1, q1, rfl, rfl, rfl, h1, r1⟩ := trodAll_cons r0
  obtain ⟨v2, vs2, d2, ds2, p2, q2, rfl, rfl, rfl, h2, r2⟩ := trodAll_cons r1
  obtain ⟨v3, vs3, d3, ds3, p3, q3, rfl, rfl, rfl, h3, r3⟩ := trodAll_cons r2
  obtain ⟨rfl, rfl, rfl⟩ := trodAll_nil r3
  obtain rfl : args = #[v0, v1, v2, v3] := Array.toList_inj.1 hargs
  obtain ⟨rfl, rfl⟩ := trodVars_none hV
  obtain ⟨SA, SC, S, NA, NC, N, rfl, lS, lN, shutP⟩ := open_play (hval 0 25 v0 rfl rfl) h0
  obtain ⟨ex, ey, ez, rfl, rfl, rfl, iex, iey, iez⟩ := open_vec (hval 1 27 v1 rfl rfl) h1
  obtain ⟨OA, OC, O, rfl, lO, shutO⟩ := open_bods (hval 2 22 v2 rfl rfl) h2
  obtain ⟨rn, rd, rfl, rfl, rfl, irn, ird⟩ := open_rat (hval 3 36 v3 rfl rfl) h3
  clear hA0
  refine (law_any SA SC S NA NC N ex ey ez OA OC O rn rd (wf_i irn) (wf_i ird) W lS lN lO).mono fun e W' ⟨he, bel⟩ => ?_
  subst he
  exact ⟨_, rfl, _, _, _, [], _, [], hW', trodAll_mk1 (shut_bool Try.underlying4 _), (trodAll_cons_mk (shutP W' (fun b => decide (b < W.heap.size)) bel (fun q hq => hold q (by simp [hq]))) (trodAll_cons_mk (shut_vec iex iey iez) (trodAll_cons_mk (shutO W' (fun b => decide (b < W.heap.size)) bel (fun q hq => hold q (by simp [hq]))) (trodAll_cons_mk (shut_rat irn ird) trodAll_mk0)))), rfl, bel.frame _, fun h => by cases h⟩

theorem reads (os : Os) {H : Type} (enc : TypeId × Value → H) : ∃ places, DataW.whole enc Try.prog ((laidWorld os).forCall (fun _ _ => 0) ⟨#[], #[.agg #[.slice none 0 0, .slice none 0 0], .agg #[.int .i64 0, .int .i64 0, .int .i64 0], .slice none 0 0, .agg #[.int .i64 0, .int .i64 0]], []⟩).memory Try.f8.params.toList Rows.sceneKeptSpec.vars false (#[.agg #[.slice none 0 0, .slice none 0 0], .agg #[.int .i64 0, .int .i64 0, .int .i64 0], .slice none 0 0, .agg #[.int .i64 0, .int .i64 0]] : Array Value).toList 8 = some ([.agg [.nil, .nil], .agg [.lit (.int .i64 0), .lit (.int .i64 0), .lit (.int .i64 0)], .nil, .agg [.lit (.int .i64 0), .lit (.int .i64 0)]], [], places) :=
  ⟨[], by kernel_rfl⟩

set_option maxRecDepth 100000 in
theorem lifted (os : Os) (started : os.Started) (H : Type) (enc : TypeId × Value → H) (F : Stop.Interp) :
    ReturnsInHanded {} Try.checked os 8 .any ((OpenSpec.ofChange Rows.sceneKeptSpec).preRow enc Try.prog Try.f8 Rows.sceneKeptRow.domain false Rows.sceneKeptRow.laid) (((OpenSpec.ofChange Rows.sceneKeptSpec).at F).post enc Try.prog Try.f8 false true false false) := by
  obtain ⟨places, hx⟩ := reads os enc
  refine returnsInHanded_of_row (C := Try.checked) (s := OpenSpec.ofChange Rows.sceneKeptSpec) own started (by kernel_rfl) Try.func8
    (witness_row_atRef (enc := enc) (C := Try.checked) false (laidWorld os) #[.agg #[.slice none 0 0, .slice none 0 0], .agg #[.int .i64 0, .int .i64 0, .int .i64 0], .slice none 0 0, .agg #[.int .i64 0, .int .i64 0]] rfl (by kernel_rfl) (by kernel_rfl) (by kernel_rfl)
      (OpenSpec.preRow_of_cond 8 hx (by kernel_rfl) (fun k hk => by cases hk) (by kernel_rfl) (laidWorld_met os _))) ?_
  intro W base args ds gs before hval hW _ hcond _ hL hsh _
  exact contract H enc W base args ds gs before hval hW

/-- The statement. -/
theorem said : Rows.SceneKeptSaid :=
  OpenClaim.holds_of_cond 8 Try.f8 rfl rfl rfl rfl rfl rfl rfl ⟨rfl, rfl, rfl, rfl, rfl⟩ rfl rfl rfl rfl rfl (by kernel_rfl) Try.func8 (by kernel_rfl)
    (of_decide_eq_true (by kernel_rfl)) (by unfold Func.isWrapper; first | (rw [if_pos (by decide +kernel)]; kernel_rfl) | (rw [if_neg (by decide +kernel)]; exact ⟨rfl, rfl⟩))
    (fun os started H enc _ F => by rw [OpenClaim.pre_eq_preRow]; exact lifted os started H enc F)
end Go.Proofs.Ytgjcmolocoijiaa.LawKept
