/-
  SceneInside.
-/
import Derived.Test.YtgjcmolocoijiaaZScnZX
import Derived.Test.YtgjcmolocoijiaaRows
import Derived.ProofKit
import Derived.OpenShut
import Derived.Deep.DeepHandedRow
import Derived.Deep.DeepWitnessRowRef
import Derived.MakeChecks
import Derived.Deep.DeepCutAuto
import Derived.Test.YtgjcmolocoijiaaZGenE
namespace Go.Proofs.Ytgjcmolocoijiaa.LawInside
open Go.RowKit Go.Sort
open Go.RowKit (Below)
set_option linter.unusedVariables false
set_option linter.unusedSimpArgs false
attribute [local go_sem] Oper.semAt_some

section
variable {T : List Bv} {M : List Sv} {ex ey ez : Int} {Q : List Bv} {n d : Int}
theorem bds_of {L : List Bv} (h : Bds L) {b : Bv} (hb : b ∈ L) : Bok b.xs b.lo b.hi := by
  obtain ⟨i, hi, rfl⟩ := List.mem_iff_getElem.1 hb
  have := h i hi
  rwa [gdB_at hi] at this
/-- Inside a body of the set, or a further one, nothing is seen. -/
theorem in_none (h : TotR T M ex ey ez Q n d 0) {J : List Bv} (hJ : T ++ Q = J) : V3 ex ey ez ∧ ∀ k, k < J.length → Bok (gdB J k).xs (gdB J k).lo (gdB J k).hi ∧ (InB (gdB J k).xs (gdB J k).lo (gdB J k).hi ex ey ez → n = 0 ∧ d = 1) := by
  subst hJ
  obtain ⟨_, hok, _, ht, hm, e1, e2⟩ := tot_vld h
  refine ⟨hok.2.1, fun k hk => ?_⟩
  have hmem : gdB (T ++ Q) k ∈ T ++ Q := by rw [gdB_at hk]; exact List.getElem_mem hk
  have hb : Bok (gdB (T ++ Q) k).xs (gdB (T ++ Q) k).lo (gdB (T ++ Q) k).hi := by
    rcases List.mem_append.1 hmem with a | a
    · exact bds_of hok.1.2.2.2.1 a
    · exact bds_of hok.2.2.1 a
  refine ⟨hb, fun hi => ?_⟩
  have hz : tsum (shn ex ey ez T Q) M M.length = 0 := by
    have : ∀ j, j ≤ M.length → tsum (shn ex ey ez T Q) M j = 0 := by
      intro j
      induction j with
      | zero => intro _; rfl
      | succ j ih =>
        intro hj
        unfold tsum
        rw [ih (by omega), shn_in hok.2.1 (hok.1.2.2.2.2 j (by omega)).2.2.1 (b := gdB (T ++ Q) k) (by unfold alb; rcases List.mem_append.1 hmem with a | a; exact List.mem_append.2 (.inl (List.mem_append.2 (.inl a))); exact List.mem_append.2 (.inr a)) hb hi]
        omega
    exact this _ (Nat.le_refl _)
  rw [hz] at e1 e2
  have := q_same (a := 0) (b := 100 * msum M M.length) (c := 0) (d := 1) (by omega) (by omega) (by omega)
  rw [← e1, ← e2, this.1, this.2]
  exact ⟨by decide, by decide⟩
end
set_option maxRecDepth 100000 in
set_option maxHeartbeats 4000000 in
theorem ins_0 (SA : Option Addr) (SC : Nat) (S : List Bv) (NA : Option Addr) (NC : Nat) (N : List Sv) (ex ey ez : Int) (OA : Option Addr) (OC : Nat) (O : List Bv) (T : List Bv) (M : List Sv) (Q : List Bv) (hX : Cutx S N O T M Q) (E : Int) (hE : ScE T M ex ey ez Q E) (h0 : E ≠ 0) (w : World) (lS : LC w SA SC S) (lN : LV w NA NC N) (lO : LC w OA OC O) :
    Calls Try.prog 7 #[.agg #[.slice SA S.length SC, .slice NA N.length NC], .agg #[.int .i64 ex, .int .i64 ey, .int .i64 ez], .slice OA O.length OC] w fun e_ w' => e_ = .returned (.bool true) ∧ Below w.heap.size w w' := by
  have CT := Lib.hid (fun B D BQ DQ W (a : SvS W B M) (b : BdS W SA T) (c : BdS W BQ Q) => total_is SA SC T B D M ex ey ez BQ DQ Q hX.sml (by have := hX.ql; omega) 0 0 E (Or.inl ⟨h0, hE, rfl, rfl⟩) W a b c)
  have z0 : (E != 0) = true := by simp [h0]
  clear hE h0
  have CF := Lib.hid (fun W (h : SvS W NA N) => few11_is SA SC S NA NC N lS.cap (Nat.le_trans lN.cap.1 lN.cap.2) lN.ca M hX.m T.length (by rw [hX.t]) W h)
  have CQ := Lib.hid (fun W (h : BdS W OA O) => cut_is OA OC O (Nat.le_trans lO.cap.1 lO.cap.2) lO.ca Q hX.q W h)
  have HS := Lib.hid (show BdS w SA T from hX.t ▸ lS.sl.take 6)
  have HN := Lib.hid lN.sl
  have HO := Lib.hid lO.sl
  have hTl := hX.tl
  have hMl := hX.ml
  have hQl := hX.ql
  clear lS lN lO hX
  go_enter Try.func7, Try.ntmps7
  go_wp2_with fail
  obtain ⟨w1, hw1⟩ : ∃ V, ((w.alloc (.cells #[.slice SA S.length SC, .slice NA N.length NC] 25)).alloc (.cells #[.int .i64 ex, .int .i64 ey, .int .i64 ez] 27)) = V := ⟨_, rfl⟩
  obtain ⟨hB_, kp, ke⟩ := boxes2 _ _ _ hw1
  rw [hw1]
  clear hw1
  have HB := Lib.hid hB_
  clear hB_
  have p0 := (two_cells kp).1
  have p1 := (two_cells kp).2.1
  have lp := block_lt p0
  have e0 := (cells3 ke).1
  have e1 := (cells3 ke).2.1
  have e2 := (cells3 ke).2.2
  have le := block_lt e0
  with_reducible refine (head11_any _).mono ?_
  rintro e_ w2 ⟨rfl, hb⟩
  replace HB := Lib.hid (on_below HB.out hb)
  replace p0 := keepc hb p0
  replace p1 := keepc hb p1
  replace e0 := keepc hb e0
  replace e1 := keepc hb e1
  replace e2 := keepc hb e2
  replace kp := blk_on kp hb
  replace ke := blk_on ke hb
  replace lp := Nat.lt_of_lt_of_le lp hb.size
  replace le := Nat.lt_of_lt_of_le le hb.size
  clear hb
  go_wp2_with fail
  with_reducible refine (CF.out _ (HN.out.below HB.out)).mono ?_
  rintro e_ w3 ⟨B, ⟨D, rfl⟩, hsv, hb⟩
  replace HB := Lib.hid (on_below HB.out hb)
  replace p0 := keepc hb p0
  replace p1 := keepc hb p1
  replace e0 := keepc hb e0
  replace e1 := keepc hb e1
  replace e2 := keepc hb e2
  replace kp := blk_on kp hb
  replace ke := blk_on ke hb
  replace lp := Nat.lt_of_lt_of_le lp hb.size
  replace le := Nat.lt_of_lt_of_le le hb.size
  clear hb
  have hpx : Pbx w3 w.heap.size := ⟨_, _, _, _, _, _, _, kp⟩
  have fp0 : World.frozen? w3 ⟨w.heap.size, 0, none⟩ = false := by simp [World.frozen?, kp]
  have fp1 : World.frozen? w3 ⟨w.heap.size, 1, none⟩ = false := by simp [World.frozen?, kp]
  go_wp2_with fail
  clear CF fp0 fp1 p0 p1 e0 e1 e2 lp le
  have HV := Lib.hid (show SvS ((w3.setCell ⟨w.heap.size, 0, none⟩ (.slice SA T.length SC)).setCell ⟨w.heap.size, 1, none⟩ (.slice B M.length D)) B M from hsv.far hpx)
  clear hsv hpx
  replace kp : ((w3.setCell ⟨w.heap.size, 0, none⟩ (.slice SA T.length SC)).setCell ⟨w.heap.size, 1, none⟩ (.slice B M.length D)).heap[w.heap.size]? = some (.cells #[.slice SA T.length SC, .slice B M.length D] 25 (0, 0)) := set_cells (set_cells kp 0 _) 1 _
  replace ke : ((w3.setCell ⟨w.heap.size, 0, none⟩ (.slice SA T.length SC)).setCell ⟨w.heap.size, 1, none⟩ (.slice B M.length D)).heap[w.heap.size + 1]? = _ := blk_far (blk_far ke (by omega)) (by omega)
  replace HB := Lib.hid (show Below w.heap.size w ((w3.setCell ⟨w.heap.size, 0, none⟩ (.slice SA T.length SC)).setCell ⟨w.heap.size, 1, none⟩ (.slice B M.length D)) from (HB.out.setCell (by simp <;> omega) _).setCell (by simp <;> omega) _)
  generalize ((w3.setCell ⟨w.heap.size, 0, none⟩ (.slice SA T.length SC)).setCell ⟨w.heap.size, 1, none⟩ (.slice B M.length D)) = w4 at *
  have p0 := (two_cells kp).1
  have p1 := (two_cells kp).2.1
  have lp := block_lt p0
  have e0 := (cells3 ke).1
  have e1 := (cells3 ke).2.1
  have e2 := (cells3 ke).2.2
  have le := block_lt e0
  with_reducible refine (CQ.out _ (HO.out.below HB.out)).mono ?_
  rintro e_ w5 ⟨BQ, ⟨DQ, rfl⟩, hq, hb⟩
  replace HB := Lib.hid (on_below HB.out hb)
  replace HV := Lib.hid (HV.out.below hb)
  replace p0 := keepc hb p0
  replace p1 := keepc hb p1
  replace e0 := keepc hb e0
  replace e1 := keepc hb e1
  replace e2 := keepc hb e2
  replace kp := blk_on kp hb
  replace ke := blk_on ke hb
  replace lp := Nat.lt_of_lt_of_le lp hb.size
  replace le := Nat.lt_of_lt_of_le le hb.size
  clear hb
  clear CQ
  have HQ := Lib.hid hq
  clear hq
  go_wp2_with fail
  with_reducible refine (CT.out B D BQ DQ _ HV.out (HS.out.below HB.out) HQ.out).mono ?_
  rintro e_ w6 ⟨rfl, hb⟩
  replace HB := Lib.hid (on_below HB.out hb)
  replace HV := Lib.hid (HV.out.below hb)
  replace HQ := Lib.hid (HQ.out.below hb)
  replace p0 := keepc hb p0
  replace p1 := keepc hb p1
  replace e0 := keepc hb e0
  replace e1 := keepc hb e1
  replace e2 := keepc hb e2
  replace kp := blk_on kp hb
  replace ke := blk_on ke hb
  replace lp := Nat.lt_of_lt_of_le lp hb.size
  replace le := Nat.lt_of_lt_of_le le hb.size
  clear hb
  go_wp2_with fail
  have t0 : World.cell? (w6.alloc (.cells #[.int .i64 0, .int .i64 0] 36)) ⟨w6.heap.size, 0, none⟩ = some (.int .i64 0) := by simp [go_sem]
  have t1 : World.cell? (w6.alloc (.cells #[.int .i64 0, .int .i64 0] 36)) ⟨w6.heap.size, 1, none⟩ = some (.int .i64 0) := by simp [go_sem]
  have lt : w6.heap.size < (w6.alloc (.cells #[.int .i64 0, .int .i64 0] 36)).heap.size := by simp
  have hb : Below w6.heap.size w6 (w6.alloc (.cells #[.int .i64 0, .int .i64 0] 36)) := below_new _ _
  generalize w6.alloc (.cells #[.int .i64 0, .int .i64 0] 36) = w7 at *
  replace HB := Lib.hid (on_below HB.out hb)
  replace HV := Lib.hid (HV.out.below hb)
  replace HQ := Lib.hid (HQ.out.below hb)
  replace p0 := keepc hb p0
  replace p1 := keepc hb p1
  replace e0 := keepc hb e0
  replace e1 := keepc hb e1
  replace e2 := keepc hb e2
  replace kp := blk_on kp hb
  replace ke := blk_on ke hb
  replace lp := Nat.lt_of_lt_of_le lp hb.size
  replace le := Nat.lt_of_lt_of_le le hb.size
  clear hb
  generalize w6.heap.size = gt at *
  go_ret
  exact ⟨rfl, HB.out⟩
set_option maxRecDepth 100000 in
set_option maxHeartbeats 4000000 in
theorem ins_1 (SA : Option Addr) (SC : Nat) (S : List Bv) (NA : Option Addr) (NC : Nat) (N : List Sv) (ex ey ez : Int) (OA : Option Addr) (OC : Nat) (O : List Bv) (T : List Bv) (M : List Sv) (Q : List Bv) (hX : Cutx S N O T M Q) (n d : Int) (hT : TotR T M ex ey ez Q n d 0) (w : World) (lS : LC w SA SC S) (lN : LV w NA NC N) (lO : LC w OA OC O) :
    Calls Try.prog 7 #[.agg #[.slice SA S.length SC, .slice NA N.length NC], .agg #[.int .i64 ex, .int .i64 ey, .int .i64 ez], .slice OA O.length OC] w fun e_ w' => e_ = .returned (.bool true) ∧ Below w.heap.size w w' := by
  have CT := Lib.hid (fun B D BQ DQ W (a : SvS W B M) (b : BdS W SA T) (c : BdS W BQ Q) => total_is SA SC T B D M ex ey ez BQ DQ Q hX.sml (by have := hX.ql; omega) n d 0 hT W a b c)
  obtain ⟨J, hJ⟩ : ∃ J, T ++ Q = J := ⟨_, rfl⟩
  have HJ := Lib.hid hJ
  have HZ := Lib.hid (in_none hT hJ)
  have HLL := Lib.hid (fun k (hk : k < J.length) => show (gdB J k).xs.length ≤ 9223372036854775806 from by have := ((in_none hT hJ).2 k hk).1; have := this.n8; omega)
  have hJl : T.length + Q.length = J.length := by rw [← hJ, List.length_append]
  obtain ⟨i0, hi0, hz0, hz1, hz2⟩ := info_of (show (Try.prog.info? 59).map (fun i => (i.zero, i.size, i.bytes)) = some (some (.agg #[.slice none 0 0, .int .i64 0, .int .i64 0]), 3, 40) by kernel_rfl)
  clear hT hJ
  have CF := Lib.hid (fun W (h : SvS W NA N) => few11_is SA SC S NA NC N lS.cap (Nat.le_trans lN.cap.1 lN.cap.2) lN.ca M hX.m T.length (by rw [hX.t]) W h)
  have CQ := Lib.hid (fun W (h : BdS W OA O) => cut_is OA OC O (Nat.le_trans lO.cap.1 lO.cap.2) lO.ca Q hX.q W h)
  have HS := Lib.hid (show BdS w SA T from hX.t ▸ lS.sl.take 6)
  have HN := Lib.hid lN.sl
  have HO := Lib.hid lO.sl
  have hTl := hX.tl
  have hMl := hX.ml
  have hQl := hX.ql
  clear lS lN lO hX
  go_enter Try.func7, Try.ntmps7
  go_wp2_with fail
  obtain ⟨w1, hw1⟩ : ∃ V, ((w.alloc (.cells #[.slice SA S.length SC, .slice NA N.length NC] 25)).alloc (.cells #[.int .i64 ex, .int .i64 ey, .int .i64 ez] 27)) = V := ⟨_, rfl⟩
  obtain ⟨hB_, kp, ke⟩ := boxes2 _ _ _ hw1
  rw [hw1]
  clear hw1
  have HB := Lib.hid hB_
  clear hB_
  have p0 := (two_cells kp).1
  have p1 := (two_cells kp).2.1
  have lp := block_lt p0
  have e0 := (cells3 ke).1
  have e1 := (cells3 ke).2.1
  have e2 := (cells3 ke).2.2
  have le := block_lt e0
  with_reducible refine (head11_any _).mono ?_
  rintro e_ w2 ⟨rfl, hb⟩
  replace HB := Lib.hid (on_below HB.out hb)
  replace p0 := keepc hb p0
  replace p1 := keepc hb p1
  replace e0 := keepc hb e0
  replace e1 := keepc hb e1
  replace e2 := keepc hb e2
  replace kp := blk_on kp hb
  replace ke := blk_on ke hb
  replace lp := Nat.lt_of_lt_of_le lp hb.size
  replace le := Nat.lt_of_lt_of_le le hb.size
  clear hb
  go_wp2_with fail
  with_reducible refine (CF.out _ (HN.out.below HB.out)).mono ?_
  rintro e_ w3 ⟨B, ⟨D, rfl⟩, hsv, hb⟩
  replace HB := Lib.hid (on_below HB.out hb)
  replace p0 := keepc hb p0
  replace p1 := keepc hb p1
  replace e0 := keepc hb e0
  replace e1 := keepc hb e1
  replace e2 := keepc hb e2
  replace kp := blk_on kp hb
  replace ke := blk_on ke hb
  replace lp := Nat.lt_of_lt_of_le lp hb.size
  replace le := Nat.lt_of_lt_of_le le hb.size
  clear hb
  have hpx : Pbx w3 w.heap.size := ⟨_, _, _, _, _, _, _, kp⟩
  have fp0 : World.frozen? w3 ⟨w.heap.size, 0, none⟩ = false := by simp [World.frozen?, kp]
  have fp1 : World.frozen? w3 ⟨w.heap.size, 1, none⟩ = false := by simp [World.frozen?, kp]
  go_wp2_with fail
  clear CF fp0 fp1 p0 p1 e0 e1 e2 lp le
  have HV := Lib.hid (show SvS ((w3.setCell ⟨w.heap.size, 0, none⟩ (.slice SA T.length SC)).setCell ⟨w.heap.size, 1, none⟩ (.slice B M.length D)) B M from hsv.far hpx)
  clear hsv hpx
  replace kp : ((w3.setCell ⟨w.heap.size, 0, none⟩ (.slice SA T.length SC)).setCell ⟨w.heap.size, 1, none⟩ (.slice B M.length D)).heap[w.heap.size]? = some (.cells #[.slice SA T.length SC, .slice B M.length D] 25 (0, 0)) := set_cells (set_cells kp 0 _) 1 _
  replace ke : ((w3.setCell ⟨w.heap.size, 0, none⟩ (.slice SA T.length SC)).setCell ⟨w.heap.size, 1, none⟩ (.slice B M.length D)).heap[w.heap.size + 1]? = _ := blk_far (blk_far ke (by omega)) (by omega)
  replace HB := Lib.hid (show Below w.heap.size w ((w3.setCell ⟨w.heap.size, 0, none⟩ (.slice SA T.length SC)).setCell ⟨w.heap.size, 1, none⟩ (.slice B M.length D)) from (HB.out.setCell (by simp <;> omega) _).setCell (by simp <;> omega) _)
  generalize ((w3.setCell ⟨w.heap.size, 0, none⟩ (.slice SA T.length SC)).setCell ⟨w.heap.size, 1, none⟩ (.slice B M.length D)) = w4 at *
  have p0 := (two_cells kp).1
  have p1 := (two_cells kp).2.1
  have lp := block_lt p0
  have e0 := (cells3 ke).1
  have e1 := (cells3 ke).2.1
  have e2 := (cells3 ke).2.2
  have le := block_lt e0
  with_reducible refine (CQ.out _ (HO.out.below HB.out)).mono ?_
  rintro e_ w5 ⟨BQ, ⟨DQ, rfl⟩, hq, hb⟩
  replace HB := Lib.hid (on_below HB.out hb)
  replace HV := Lib.hid (HV.out.below hb)
  replace p0 := keepc hb p0
  replace p1 := keepc hb p1
  replace e0 := keepc hb e0
  replace e1 := keepc hb e1
  replace e2 := keepc hb e2
  replace kp := blk_on kp hb
  replace ke := blk_on ke hb
  replace lp := Nat.lt_of_lt_of_le lp hb.size
  replace le := Nat.lt_of_lt_of_le le hb.size
  clear hb
  clear CQ
  have HQ := Lib.hid hq
  clear hq
  go_wp2_with fail
  with_reducible refine (CT.out B D BQ DQ _ HV.out (HS.out.below HB.out) HQ.out).mono ?_
  rintro e_ w6 ⟨rfl, hb⟩
  replace HB := Lib.hid (on_below HB.out hb)
  replace HV := Lib.hid (HV.out.below hb)
  replace HQ := Lib.hid (HQ.out.below hb)
  replace p0 := keepc hb p0
  replace p1 := keepc hb p1
  replace e0 := keepc hb e0
  replace e1 := keepc hb e1
  replace e2 := keepc hb e2
  replace kp := blk_on kp hb
  replace ke := blk_on ke hb
  replace lp := Nat.lt_of_lt_of_le lp hb.size
  replace le := Nat.lt_of_lt_of_le le hb.size
  clear hb
  go_upto_region 7 with fail
  have t0 : World.cell? (w6.alloc (.cells #[.int .i64 n, .int .i64 d] 36)) ⟨w6.heap.size, 0, none⟩ = some (.int .i64 n) := by simp [go_sem]
  have t1 : World.cell? (w6.alloc (.cells #[.int .i64 n, .int .i64 d] 36)) ⟨w6.heap.size, 1, none⟩ = some (.int .i64 d) := by simp [go_sem]
  have lt : w6.heap.size < (w6.alloc (.cells #[.int .i64 n, .int .i64 d] 36)).heap.size := by simp
  have hb : Below w6.heap.size w6 (w6.alloc (.cells #[.int .i64 n, .int .i64 d] 36)) := below_new _ _
  generalize w6.alloc (.cells #[.int .i64 n, .int .i64 d] 36) = w7 at *
  replace HB := Lib.hid (on_below HB.out hb)
  replace HV := Lib.hid (HV.out.below hb)
  replace HQ := Lib.hid (HQ.out.below hb)
  replace p0 := keepc hb p0
  replace p1 := keepc hb p1
  replace e0 := keepc hb e0
  replace e1 := keepc hb e1
  replace e2 := keepc hb e2
  replace kp := blk_on kp hb
  replace ke := blk_on ke hb
  replace lp := Nat.lt_of_lt_of_le lp hb.size
  replace le := Nat.lt_of_lt_of_le le hb.size
  clear hb
  generalize w6.heap.size = gt at *
  have own0 := own_lit w7 w7.heap.size 59 3 (Nat.le_refl _)
  have hbL := below_new w7 (.cells #[] 59)
  have m1_ : 0 + T.length ≤ maxLen := by unfold maxLen; omega
  have m2_ : (0 + T.length) * 40 ≤ 140737488355328 := by omega
  have m3_ : 0 + T.length + Q.length ≤ maxLen := by unfold maxLen; omega
  have m4_ : (0 + T.length + Q.length) * 40 ≤ 140737488355328 := by omega
  go_wp2_with (first | (at_builtin; refine wpList_app _ rfl (.tmp 29) (.tmp 31) 22 rfl w7.heap.size 59 i0 _ 3 40 Try.underlying22 hi0 hz0 hz1 hz2 rfl (by decide) _ 0 [] rfl own0 SA T.length SC (flt bvc T) rfl (flt_len bvc_len T) (bds_src (HS.out.below (on_below HB.out hbL))) (flt_one bvc_one T) m1_ m2_ hbL.size ?_; intro v1 u1 own1 gr1; have hb1 := app_below hbL hbL.size own0 (Nat.le_refl _) gr1) | (at_builtin; refine wpList_app _ rfl (.tmp 32) (.tmp 33) 22 rfl w7.heap.size 59 i0 _ 3 40 Try.underlying22 hi0 hz0 hz1 hz2 rfl (by decide) _ (0 + T.length) ([] ++ flt bvc T) rfl own1 BQ Q.length DQ (flt bvc Q) rfl (flt_len bvc_len Q) (bds_src (HQ.out.below hb1)) (flt_one bvc_one Q) m3_ m4_ hb1.size ?_; intro v2 u2 own2 gr2; have hb2 := app_below hb1 hb1.size own1 (Nat.le_refl _) gr2))
  have hb := hb2
  clear gr1 gr2 own0 own1 hbL hb1 hb2 m1_ m2_ m3_ m4_
  rw [List.nil_append, flt_app] at own2
  obtain ⟨xA, xC, rfl, _, _, _, hxs⟩ := own_bds own2 (sls_apz (bds_sls (HS.out.below (on_below HB.out hb))) (HQ.out.below hb))
  clear own2
  rw [HJ.out] at hxs ⊢
  have HJL := Lib.hid hJl
  have hjb : J.length ≤ 12 := by omega
  clear hJl
  replace HB := Lib.hid (on_below HB.out hb)
  replace HV := Lib.hid (HV.out.below hb)
  replace HQ := Lib.hid (HQ.out.below hb)
  replace p0 := keepc hb p0
  replace p1 := keepc hb p1
  replace e0 := keepc hb e0
  replace e1 := keepc hb e1
  replace e2 := keepc hb e2
  replace t0 := keepc hb t0
  replace t1 := keepc hb t1
  replace kp := blk_on kp hb
  replace ke := blk_on ke hb
  replace lp := Nat.lt_of_lt_of_le lp hb.size
  replace le := Nat.lt_of_lt_of_le le hb.size
  replace lt := Nat.lt_of_lt_of_le lt hb.size
  clear hb
  have HX := Lib.hid hxs
  clear hxs
  go_loopw [11] (fun i wr => ∃ k : Nat, k ≤ J.length ∧ i = .int .i64 k ∧ Below u2.heap.size u2 wr) (fun i _ => J.length - (intOf i).toNat)
  case atStart => exact ⟨0, Nat.zero_le _, rfl, Below.refl _ _⟩
  case round =>
    obtain ⟨k, hk, rfl, hW⟩ := hrel
    have w1_ : IntKind.i64.wrap ((k : Int) + 1) = (k : Int) + 1 := IntWalk.i64_in _ ⟨by omega, by omega⟩
    have w2_ : wrap64 ((k : Int) + 1) = (k : Int) + 1 := IntWalk.wrap64_in _ ⟨by omega, by omega⟩
    by_cases hlt : k < J.length
    · obtain ⟨b0, o0, rfl, f0, f1, f2, hsl⟩ := HX.out.below hW k hlt
      have xt0 := keepc hW t0
      have xt1 := keepc hW t1
      have xe0 := keepc hW e0
      have xe1 := keepc hW e1
      have xe2 := keepc hW e2
      have HSL := Lib.hid hsl
      have HW := Lib.hid hW
      clear hsl hW p0 p1 e0 e1 e2 t0 t1
      obtain ⟨hbk, hin⟩ := HZ.out.2 k hlt
      obtain ⟨r, hr⟩ := bool_of (InB (gdB J k).xs (gdB J k).lo (gdB J k).hi ex ey ez)
      have HIN := Lib.hid (fun (e : r = true) => hin (hr.1 e))
      have hll := HLL.out k hlt
      have C5 := Lib.hid (fun W (h : SlS W (gdB J k).A (gdB J k).xs) => pinside_is (gdB J k).A (gdB J k).C (gdB J k).xs (gdB J k).lo (gdB J k).hi ex ey ez hll r 0 (Or.inl ⟨hbk, HZ.out.1, rfl, hr⟩) W h)
      clear hbk hin hr hll
      generalize gdB J k = u at *
      obtain ⟨uA, uC, uxs, ul, uh⟩ := u
      dsimp only at f0 f1 f2 C5 HSL
      go_wp2_with fail
      have kp : ∀ {Wq_ : World}, Below wr.heap.size wr Wq_ → Wq_.cell? ⟨b0, o0 + k * 3, none⟩ = some (.slice uA uxs.length uC) ∧ Wq_.cell? ⟨b0, o0 + k * 3 + 1, none⟩ = some (.int .i64 ul) ∧ Wq_.cell? ⟨b0, o0 + k * 3 + 2, none⟩ = some (.int .i64 uh) ∧ Wq_.cell? ⟨w.heap.size + 1, 0, none⟩ = some (.int .i64 ex) ∧ Wq_.cell? ⟨w.heap.size + 1, 1, none⟩ = some (.int .i64 ey) ∧ Wq_.cell? ⟨w.heap.size + 1, 2, none⟩ = some (.int .i64 ez) := fun h => ⟨keepc h f0, keepc h f1, keepc h f2, keepc h xe0, keepc h xe1, keepc h xe2⟩
      refine wp_region_held_drew (S := fun Wq_ => Wq_.cell? ⟨b0, o0 + k * 3, none⟩ = some (.slice uA uxs.length uC) ∧ Wq_.cell? ⟨b0, o0 + k * 3 + 1, none⟩ = some (.int .i64 ul) ∧ Wq_.cell? ⟨b0, o0 + k * 3 + 2, none⟩ = some (.int .i64 uh) ∧ Wq_.cell? ⟨w.heap.size + 1, 0, none⟩ = some (.int .i64 ex) ∧ Wq_.cell? ⟨w.heap.size + 1, 1, none⟩ = some (.int .i64 ey) ∧ Wq_.cell? ⟨w.heap.size + 1, 2, none⟩ = some (.int .i64 ez)) (by kernel_rfl) (kp (Below.refl _ _).drew) fun HL_ => ?_
      refine wpAnyH_take (i := 0) (v := .slice (some ⟨b0, o0, none⟩) J.length xC) rfl (by kernel_rfl) (by kernel_rfl) (by kernel_rfl) (fun _ _ _ h => h) (Or.inl ⟨by kernel_rfl, ?_⟩) HL_ ?_
      · rintro Wl ⟨s0, s1, s2, s3, s4, s5⟩
        go_simp
      simp only [Act.put, List.getElem_toArray, List.getElem_cons_succ, List.getElem_cons_zero, List.setIfInBounds_toArray, List.set_cons_zero, List.set_cons_succ]
      refine wpAnyH_take (i := 1) (v := .int .i64 k) rfl (by kernel_rfl) (by kernel_rfl) (by kernel_rfl) (fun _ _ _ h => h) (Or.inl ⟨by kernel_rfl, ?_⟩) HL_ ?_
      · rintro Wl ⟨s0, s1, s2, s3, s4, s5⟩
        go_simp
      simp only [Act.put, List.getElem_toArray, List.getElem_cons_succ, List.getElem_cons_zero, List.setIfInBounds_toArray, List.set_cons_zero, List.set_cons_succ]
      refine wpAnyH_take (i := 2) (v := .pointer (some ⟨b0, o0 + k * 3, none⟩)) rfl (by kernel_rfl) (by kernel_rfl) (by kernel_rfl) (fun _ _ _ h => h) (Or.inl ⟨by kernel_rfl, ?_⟩) HL_ ?_
      · rintro Wl ⟨s0, s1, s2, s3, s4, s5⟩
        go_simp
      simp only [Act.put, List.getElem_toArray, List.getElem_cons_succ, List.getElem_cons_zero, List.setIfInBounds_toArray, List.set_cons_zero, List.set_cons_succ]
      refine wpAnyH_take (i := 3) (v := .agg #[.slice uA uxs.length uC, .int .i64 ul, .int .i64 uh]) rfl (by kernel_rfl) (by kernel_rfl) (by kernel_rfl) (fun _ _ _ h => h) (Or.inl ⟨by kernel_rfl, ?_⟩) HL_ ?_
      · rintro Wl ⟨s0, s1, s2, s3, s4, s5⟩
        go_simp
      simp only [Act.put, List.getElem_toArray, List.getElem_cons_succ, List.getElem_cons_zero, List.setIfInBounds_toArray, List.set_cons_zero, List.set_cons_succ]
      refine wpAnyH_take (i := 4) (v := .agg #[.int .i64 ex, .int .i64 ey, .int .i64 ez]) rfl (by kernel_rfl) (by kernel_rfl) (by kernel_rfl) (fun _ _ _ h => h) (Or.inl ⟨by kernel_rfl, ?_⟩) HL_ ?_
      · rintro Wl ⟨s0, s1, s2, s3, s4, s5⟩
        go_simp
      simp only [Act.put, List.getElem_toArray, List.getElem_cons_succ, List.getElem_cons_zero, List.setIfInBounds_toArray, List.set_cons_zero, List.set_cons_succ]
      refine wpAnyH_ready (rs := [5]) (by kernel_rfl) (by simp) ?_
      refine AllReadyH.cons (o := _) rfl (fun K hK => ?_) AllReadyH.nil
      go_simp
      with_reducible refine (C5.out _ (HSL.out.below (Below.refl _ _).drew)).mono ?_
      rintro e_ ud1 ⟨rfl, hb⟩
      have hbX : Below wr.heap.size wr ud1 := undrew_b hb
      clear hb
      refine hK.out _ _ (kp hbX) fun HL_ => ?_
      clear hK K
      refine wpAnyH_take (i := 6) (v := .tuple #[.bool r, .int .i64 0]) rfl (by kernel_rfl) (by kernel_rfl) (by kernel_rfl) (fun _ _ _ h => h) (Or.inl ⟨by kernel_rfl, ?_⟩) HL_ ?_
      · rintro Wl ⟨s0, s1, s2, s3, s4, s5⟩
        go_simp
      simp only [Act.put, List.getElem_toArray, List.getElem_cons_succ, List.getElem_cons_zero, List.setIfInBounds_toArray, List.set_cons_zero, List.set_cons_succ]
      refine wpAnyH_take (i := 7) (v := .bool r) rfl (by kernel_rfl) (by kernel_rfl) (by kernel_rfl) (fun _ _ _ h => h) (Or.inl ⟨by kernel_rfl, ?_⟩) HL_ ?_
      · rintro Wl ⟨s0, s1, s2, s3, s4, s5⟩
        go_simp
      simp only [Act.put, List.getElem_toArray, List.getElem_cons_succ, List.getElem_cons_zero, List.setIfInBounds_toArray, List.set_cons_zero, List.set_cons_succ]
      refine wpAnyH_take (i := 8) (v := .int .i64 0) rfl (by kernel_rfl) (by kernel_rfl) (by kernel_rfl) (fun _ _ _ h => h) (Or.inl ⟨by kernel_rfl, ?_⟩) HL_ ?_
      · rintro Wl ⟨s0, s1, s2, s3, s4, s5⟩
        go_simp
      simp only [Act.put, List.getElem_toArray, List.getElem_cons_succ, List.getElem_cons_zero, List.setIfInBounds_toArray, List.set_cons_zero, List.set_cons_succ]
      refine wpAnyH_take (i := 9) (v := .bool r) rfl (by kernel_rfl) (by kernel_rfl) (by kernel_rfl) (fun _ _ _ h => h) (Or.inl ⟨by kernel_rfl, ?_⟩) HL_ ?_
      · rintro Wl ⟨s0, s1, s2, s3, s4, s5⟩
        go_simp
      simp only [Act.put, List.getElem_toArray, List.getElem_cons_succ, List.getElem_cons_zero, List.setIfInBounds_toArray, List.set_cons_zero, List.set_cons_succ]
      refine wpAnyH_take (i := 10) (v := .int .i64 0) rfl (by kernel_rfl) (by kernel_rfl) (by kernel_rfl) (fun _ _ _ h => h) (Or.inl ⟨by kernel_rfl, ?_⟩) HL_ ?_
      · rintro Wl ⟨s0, s1, s2, s3, s4, s5⟩
        go_simp
      simp only [Act.put, List.getElem_toArray, List.getElem_cons_succ, List.getElem_cons_zero, List.setIfInBounds_toArray, List.set_cons_zero, List.set_cons_succ]
      refine wpAnyH_done (by kernel_rfl) ?_ _
      clear HL_ kp
      replace HW := Lib.hid (on_below HW.out hbX)
      replace xt0 := keepc hbX xt0
      replace xt1 := keepc hbX xt1
      clear hbX C5 HSL f0 f1 f2 xe0 xe1 xe2
      cases r
      · go_wp2_with fail
        go_roundw
        case rel => exact ⟨k + 1, hlt, int_of (by first | rfl | exact w1_ | exact w2_), HW.out⟩
        case measure => simp [intOf, w1_, w2_]; clear w1_ w2_; omega
      · obtain ⟨rfl, rfl⟩ := HIN.out rfl
        have hne := fun W => rt_ne (a := 0) (b := 1) (x := 0) (y := 1) (r := true) (by decide) W
        go_wp2_with fail
        go_roundw
        case rel => exact ⟨k + 1, hlt, int_of (by first | rfl | exact w1_ | exact w2_), HW.out⟩
        case measure => simp [intOf, w1_, w2_]; clear w1_ w2_; omega
    · have hke : k = J.length := Nat.le_antisymm hk (Nat.le_of_not_lt hlt)
      subst hke
      go_wp2_with fail
      go_ret
      exact ⟨rfl, on_below HB.out hW⟩
theorem law_any (SA : Option Addr) (SC : Nat) (S : List Bv) (NA : Option Addr) (NC : Nat) (N : List Sv) (ex ey ez : Int) (OA : Option Addr) (OC : Nat) (O : List Bv) (w : World) (lS : LC w SA SC S) (lN : LV w NA NC N) (lO : LC w OA OC O) :
    Calls Try.prog 7 #[.agg #[.slice SA S.length SC, .slice NA N.length NC], .agg #[.int .i64 ex, .int .i64 ey, .int .i64 ez], .slice OA O.length OC] w fun e_ w' => e_ = .returned (.bool true) ∧ Below w.heap.size w w' := by
  obtain ⟨E, hE⟩ := sce_ex (S.take 6) (fewl N) ex ey ez (cutl O)
  by_cases h0 : E = 0
  · subst h0
    obtain ⟨h1, h2⟩ := sce_zero hE
    exact ins_1 SA SC S NA NC N ex ey ez OA OC O _ _ _ ⟨rfl, rfl, rfl⟩ _ _ (Or.inr ⟨rfl, h1, h2, rfl, rfl⟩) w lS lN lO
  · exact ins_0 SA SC S NA NC N ex ey ez OA OC O _ _ _ ⟨rfl, rfl, rfl⟩ E hE h0 w lS lN lO
/-! ### The row -/
open Go.ChangeShapes Go.WideShapes Go.ChangeAt Go.Joins
theorem own : ownKnob Try.prog.godebug = none := by kernel_rfl
noncomputable def laidWorld (os : Os) : World := World.holding Try.prog os ⟨#[], #[], []⟩
theorem laidWorld_met (os : Os) (args : Array Value) : laidMet Try.prog [] ((laidWorld os).forCall (fun _ _ => 0) ⟨#[], args, []⟩).memory :=
  laidMet_of_run' 8 (by kernel_rfl) (by kernel_rfl)

set_option maxRecDepth 100000 in
theorem contract (H : Type) (enc : TypeId × Value → H) (W : World) (base : Nat) (args : Array Value) (ds gs : List (DataW H)) (before : List MemPlace)
    (hval : ∀ (j : Nat) t v, Try.f7.params[j]? = some t → args[j]? = some v → Value.okWide Try.prog W .any base t v)
    (hW : DataW.Whole enc Try.prog Try.f7.params.toList Rows.sceneInsideSpec.vars false W args.toList ds gs before) :
    Calls Try.prog 7 args W fun e W' => ∃ v, e = .returned v ∧ Rows.sceneInsideSpec.post enc Try.prog Try.f7 false true false false W args v W' := by
  have hW' := hW
  have hold : ∀ q ∈ before, decide (q.block < W.heap.size) = true := fun q hq => by simpa using hW.lt q hq
  obtain ⟨p, q, hA0, hV, rfl, hfz, hnd⟩ := hW
  have hA : DataW.TrodAll enc Try.prog W 0 (fun _ => true) true Try.f7.params.toList args.toList ds p := hA0
  rw [Try.params7] at hA hval
  obtain ⟨v0, vs0, d0, ds0, p0, q0, hargs, rfl, rfl, h0, r0⟩ := trodAll_cons hA
  obtain ⟨v1, vs1, d1, ds1, p1, q1, rfl, rfl, rfl, h1, r1⟩ := trodAll_cons r0
  obtain ⟨v2, vs2, d2, ds2, p2, q2, rfl, rfl, rfl, h2, r2⟩ := trodAll_cons r1
  obtain ⟨rfl, rfl, rfl⟩ := trodAll_nil r2
  obtain rfl : args = #[v0, v1, v2] := Array.toList_inj.1 hargs
  obtain ⟨rfl, rfl⟩ := trodVars_none hV
  obtain ⟨SA, SC, S, NA, NC, N, rfl, lS, lN, shutP⟩ := open_play (hval 0 25 v0 rfl rfl) h0
  obtain ⟨ex, ey, ez, rfl, rfl, rfl, iex, iey, iez⟩ := open_vec (hval 1 27 v1 rfl rfl) h1
  obtain ⟨OA, OC, O, rfl, lO, shutO⟩ := open_bods (hval 2 22 v2 rfl rfl) h2
  clear hA0
  refine (law_any SA SC S NA NC N ex ey ez OA OC O W lS lN lO).mono fun e W' ⟨he, bel⟩ => ?_
  subst he
  exact ⟨_, rfl, _, _, _, [], _, [], hW', trodAll_mk1 (shut_bool Try.underlying4 _), (trodAll_cons_mk (shutP W' (fun b => decide (b < W.heap.size)) bel (fun q hq => hold q (by simp [hq]))) (trodAll_cons_mk (shut_vec iex iey iez) (trodAll_cons_mk (shutO W' (fun b => decide (b < W.heap.size)) bel (fun q hq => hold q (by simp [hq]))) trodAll_mk0))), rfl, bel.frame _, fun h => by cases h⟩

theorem reads (os : Os) {H : Type} (enc : TypeId × Value → H) : ∃ places, DataW.whole enc Try.prog ((laidWorld os).forCall (fun _ _ => 0) ⟨#[], #[.agg #[.slice none 0 0, .slice none 0 0], .agg #[.int .i64 0, .int .i64 0, .int .i64 0], .slice none 0 0], []⟩).memory Try.f7.params.toList Rows.sceneInsideSpec.vars false (#[.agg #[.slice none 0 0, .slice none 0 0], .agg #[.int .i64 0, .int .i64 0, .int .i64 0], .slice none 0 0] : Array Value).toList 8 = some ([.agg [.nil, .nil], .agg [.lit (.int .i64 0), .lit (.int .i64 0), .lit (.int .i64 0)], .nil], [], places) :=
  ⟨[], by kernel_rfl⟩

set_option maxRecDepth 100000 in
theorem lifted (os : Os) (started : os.Started) (H : Type) (enc : TypeId × Value → H) (F : Stop.Interp) :
    ReturnsInHanded {} Try.checked os 7 .any ((OpenSpec.ofChange Rows.sceneInsideSpec).preRow enc Try.prog Try.f7 Rows.sceneInsideRow.domain false Rows.sceneInsideRow.laid) (((OpenSpec.ofChange Rows.sceneInsideSpec).at F).post enc Try.prog Try.f7 false true false false) := by
  obtain ⟨places, hx⟩ := reads os enc
  refine returnsInHanded_of_row (C := Try.checked) (s := OpenSpec.ofChange Rows.sceneInsideSpec) own started (by kernel_rfl) Try.func7
    (witness_row_atRef (enc := enc) (C := Try.checked) false (laidWorld os) #[.agg #[.slice none 0 0, .slice none 0 0], .agg #[.int .i64 0, .int .i64 0, .int .i64 0], .slice none 0 0] rfl (by kernel_rfl) (by kernel_rfl) (by kernel_rfl)
      (OpenSpec.preRow_of_cond 8 hx (by kernel_rfl) (fun k hk => by cases hk) (by kernel_rfl) (laidWorld_met os _))) ?_
  intro W base args ds gs before hval hW _ hcond _ hL hsh _
  exact contract H enc W base args ds gs before hval hW

/-- The statement. -/
theorem said : Rows.SceneInsideSaid :=
  OpenClaim.holds_of_cond 7 Try.f7 rfl rfl rfl rfl rfl rfl rfl ⟨rfl, rfl, rfl, rfl, rfl⟩ rfl rfl rfl rfl rfl (by kernel_rfl) Try.func7 (by kernel_rfl)
    (of_decide_eq_true (by kernel_rfl)) (by unfold Func.isWrapper; first | (rw [if_pos (by decide +kernel)]; kernel_rfl) | (rw [if_neg (by decide +kernel)]; exact ⟨rfl, rfl⟩))
    (fun os started H enc _ F => by rw [OpenClaim.pre_eq_preRow]; exact lifted os started H enc F)
end Go.Proofs.Ytgjcmolocoijiaa.LawInside
