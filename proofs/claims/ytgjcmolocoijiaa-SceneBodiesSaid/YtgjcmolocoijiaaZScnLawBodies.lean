/-
  SceneBodies.
-/
import Derived.Test.YtgjcmolocoijiaaZScnW
import Derived.Test.YtgjcmolocoijiaaRows
import Derived.ProofKit
import Derived.OpenShut
import Derived.Deep.DeepHandedRow
import Derived.Deep.DeepWitnessRowRef
import Derived.MakeChecks
import Derived.Deep.DeepCutAuto
import Derived.Test.YtgjcmolocoijiaaZGenE
import Derived.Deep.QuietTactic
import Derived.BigQuiet
namespace Go.Proofs.Ytgjcmolocoijiaa.LawBodies
open Go.RowKit Go.Sort
open Go.RowKit (Below)
set_option linter.unusedVariables false
set_option linter.unusedSimpArgs false
attribute [local go_sem] Oper.semAt_some

section
variable {T : List Bv} {M : List Sv} {ex ey ez : Int} {Q Z : List Bv}
theorem bds_of {L : List Bv} (h : Bds L) {b : Bv} (hb : b ∈ L) : Bok b.xs b.lo b.hi := by
  obtain ⟨i, hi, rfl⟩ := List.mem_iff_getElem.1 hb
  have := h i hi
  rwa [gdB_at hi] at this
/-- With some of the further bodies. -/
theorem ok3_sub (h : Ok3 T M ex ey ez Q) (hl : Lim T.length Q.length M) (hs : ∀ b, b ∈ Z → b ∈ Q) (hn : Z.length ≤ Q.length) : Ok3 T M ex ey ez Z ∧ Lim T.length Z.length M :=
  ⟨⟨h.1, h.2.1, fun k hk => by rw [gdB_at hk]; exact bds_of h.2.2.1 (hs _ (List.getElem_mem hk)), h.2.2.2⟩, fun k hk => by have := hl k hk; omega⟩
theorem adr_eq {A : Option Addr} {C k n : Nat} (h : k ≤ C) : (if C = k then A else A.map fun x => x.add (k * n)) = adr A C k n := by
  unfold adr
  by_cases h1 : C = k
  · rw [if_pos h1, if_pos (by omega)]
  · rw [if_neg h1, if_neg (by omega)]
theorem rot_mem {k : Nat} (b : Bv) : b ∈ Q.drop k ++ Q.take k ↔ b ∈ Q := by
  rw [List.mem_append, Or.comm, ← List.mem_append, List.take_append_drop]
theorem shl_rot (k : Nat) : shl ex ey ez T M (Q.drop k ++ Q.take k) = shl ex ey ez T M Q := by
  unfold shl
  refine List.map_congr_left fun s _ => ?_
  rw [shn_eq (s := s) (s' := s) (S := T) (S' := T) (O := Q) (O' := Q.drop k ++ Q.take k) rfl (fun b => by
    unfold alb
    rw [List.mem_append, List.mem_append (t := Q), rot_mem])]
/-- Shares with some bodies, and with fewer. -/
def Bles (L K : List (Int × Int)) (k : Nat) : Prop := ∃ a b c d s, gdS L k = (a, b) ∧ gdS K k = (c, d) ∧ vld a b = true ∧ vld c d = true ∧ sgn (a * d) (c * b) = s ∧ s ≤ 0
theorem bles_of (h : Ok3 T M ex ey ez Q) (hs : ∀ b, b ∈ Z → b ∈ Q) {k : Nat} (hk : k < M.length) : Bles (shl ex ey ez T M Q) (shl ex ey ez T M Z) k := by
  have hsco := h.1.2.2.2.2 k hk
  have c1 := shn_bd ex ey ez T Q hsco.2.2.1
  have c2 := shn_bd ex ey ez T Z hsco.2.2.1
  have hle := shn_le (ex := ex) (ey := ey) (ez := ez) (S := T) (S' := T) (O := Q) (O' := Z) (s := gdV M k) (s' := gdV M k) hsco.2.2.1 rfl (fun b hb => by
    unfold alb at hb ⊢
    rcases List.mem_append.1 hb with a | a
    · exact List.mem_append.2 (.inl a)
    · exact List.mem_append.2 (.inr (hs b a)))
  refine ⟨_, _, _, _, _, shl_at hk, shl_at hk, q_vld (by omega) ⟨by omega, by omega⟩ (by omega), q_vld (by omega) ⟨by omega, by omega⟩ (by omega), sgn_q (by omega) (by omega), ?_⟩
  unfold sgn
  split
  · omega
  · rw [if_neg (by omega)]; omega
end
set_option maxRecDepth 100000 in
set_option maxHeartbeats 4000000 in
theorem bod_0 (SA : Option Addr) (SC : Nat) (S : List Bv) (NA : Option Addr) (NC : Nat) (N : List Sv) (ex ey ez : Int) (OA : Option Addr) (OC : Nat) (O : List Bv) (at_ : Int) (ha : 0 ≤ at_ ∧ at_ ≤ 255) (T : List Bv) (M : List Sv) (Q : List Bv) (hX : Cutx S N O T M Q) (E : Int) (hE : ScE T M ex ey ez Q E) (h0 : E ≠ 0) (w : World) (lS : LC w SA SC S) (lN : LV w NA NC N) (lO : LC w OA OC O) :
    Calls Try.prog 4 #[.agg #[.slice SA S.length SC, .slice NA N.length NC], .agg #[.int .i64 ex, .int .i64 ey, .int .i64 ez], .slice OA O.length OC, .int .u8 at_] w fun e_ w' => e_ = .returned (.bool true) ∧ Below w.heap.size w w' := by
  have CS := Lib.hid (fun B D BQ DQ W (a : SvS W B M) (b : BdS W SA T) (c : BdS W BQ Q) => shares_0 SA SC T B D M ex ey ez BQ DQ Q hX.sml (by have := hX.ql; omega) E hE h0 W a b c)
  have z0 : (E != 0) = true := by simp [h0]
  clear hE h0 ha
  have CF := Lib.hid (fun W (h : SvS W NA N) => few11_is SA SC S NA NC N lS.cap (Nat.le_trans lN.cap.1 lN.cap.2) lN.ca M hX.m T.length (by rw [hX.t]) W h)
  have CQ := Lib.hid (fun W (h : BdS W OA O) => cut_cap OA OC O (Nat.le_trans lO.cap.1 lO.cap.2) lO.ca Q hX.q W h)
  have HS := Lib.hid (show BdS w SA T from hX.t ▸ lS.sl.take 6)
  have HN := Lib.hid lN.sl
  have HO := Lib.hid lO.sl
  have hTl := hX.tl
  have hMl := hX.ml
  have hQl := hX.ql
  clear lS lN lO hX
  go_enter Try.func4, Try.ntmps4
  go_wp2_with fail
  obtain ⟨w1, hw1⟩ : ∃ V, ((w.alloc (.cells #[.slice SA S.length SC, .slice NA N.length NC] 25)).alloc (.cells #[.int .i64 ex, .int .i64 ey, .int .i64 ez] 27)) = V := ⟨_, rfl⟩
  obtain ⟨hB_, kp, ke⟩ := boxes2 _ _ _ hw1
  rw [hw1]
  clear hw1
  have HB := Lib.hid hB_
  clear hB_
  have p0 := (two_cells kp).1
  have p1 := (two_cells kp).2.1
  have lp := block_lt p0
  have e0 := (cells3 ke).1
  have e1 := (cells3 ke).2.1
  have e2 := (cells3 ke).2.2
  have le := block_lt e0
  with_reducible refine (head11_any _).mono ?_
  rintro e_ w2 ⟨rfl, hb⟩
  replace HB := Lib.hid (on_below HB.out hb)
  replace p0 := keepc hb p0
  replace p1 := keepc hb p1
  replace e0 := keepc hb e0
  replace e1 := keepc hb e1
  replace e2 := keepc hb e2
  replace kp := blk_on kp hb
  replace ke := blk_on ke hb
  replace lp := Nat.lt_of_lt_of_le lp hb.size
  replace le := Nat.lt_of_lt_of_le le hb.size
  clear hb
  go_wp2_with fail
  with_reducible refine (CF.out _ (HN.out.below HB.out)).mono ?_
  rintro e_ w3 ⟨B, ⟨D, rfl⟩, hsv, hb⟩
  replace HB := Lib.hid (on_below HB.out hb)
  replace p0 := keepc hb p0
  replace p1 := keepc hb p1
  replace e0 := keepc hb e0
  replace e1 := keepc hb e1
  replace e2 := keepc hb e2
  replace kp := blk_on kp hb
  replace ke := blk_on ke hb
  replace lp := Nat.lt_of_lt_of_le lp hb.size
  replace le := Nat.lt_of_lt_of_le le hb.size
  clear hb
  have hpx : Pbx w3 w.heap.size := ⟨_, _, _, _, _, _, _, kp⟩
  have fp0 : World.frozen? w3 ⟨w.heap.size, 0, none⟩ = false := by simp [World.frozen?, kp]
  have fp1 : World.frozen? w3 ⟨w.heap.size, 1, none⟩ = false := by simp [World.frozen?, kp]
  go_wp2_with fail
  clear CF fp0 fp1 p0 p1 e0 e1 e2 lp le
  have HV := Lib.hid (show SvS ((w3.setCell ⟨w.heap.size, 0, none⟩ (.slice SA T.length SC)).setCell ⟨w.heap.size, 1, none⟩ (.slice B M.length D)) B M from hsv.far hpx)
  clear hsv hpx
  replace kp : ((w3.setCell ⟨w.heap.size, 0, none⟩ (.slice SA T.length SC)).setCell ⟨w.heap.size, 1, none⟩ (.slice B M.length D)).heap[w.heap.size]? = some (.cells #[.slice SA T.length SC, .slice B M.length D] 25 (0, 0)) := set_cells (set_cells kp 0 _) 1 _
  replace ke : ((w3.setCell ⟨w.heap.size, 0, none⟩ (.slice SA T.length SC)).setCell ⟨w.heap.size, 1, none⟩ (.slice B M.length D)).heap[w.heap.size + 1]? = _ := blk_far (blk_far ke (by omega)) (by omega)
  replace HB := Lib.hid (show Below w.heap.size w ((w3.setCell ⟨w.heap.size, 0, none⟩ (.slice SA T.length SC)).setCell ⟨w.heap.size, 1, none⟩ (.slice B M.length D)) from (HB.out.setCell (by simp <;> omega) _).setCell (by simp <;> omega) _)
  generalize ((w3.setCell ⟨w.heap.size, 0, none⟩ (.slice SA T.length SC)).setCell ⟨w.heap.size, 1, none⟩ (.slice B M.length D)) = w4 at *
  have p0 := (two_cells kp).1
  have p1 := (two_cells kp).2.1
  have lp := block_lt p0
  have e0 := (cells3 ke).1
  have e1 := (cells3 ke).2.1
  have e2 := (cells3 ke).2.2
  have le := block_lt e0
  with_reducible refine (CQ.out _ (HO.out.below HB.out)).mono ?_
  rintro e_ w5 ⟨BQ, ⟨DQ, hdq, rfl⟩, hq, hb⟩
  replace HB := Lib.hid (on_below HB.out hb)
  replace HV := Lib.hid (HV.out.below hb)
  replace p0 := keepc hb p0
  replace p1 := keepc hb p1
  replace e0 := keepc hb e0
  replace e1 := keepc hb e1
  replace e2 := keepc hb e2
  replace kp := blk_on kp hb
  replace ke := blk_on ke hb
  replace lp := Nat.lt_of_lt_of_le lp hb.size
  replace le := Nat.lt_of_lt_of_le le hb.size
  clear hb
  have HDQ := Lib.hid hdq
  clear hdq
  clear CQ
  have HQ := Lib.hid hq
  clear hq
  go_wp2_with fail
  with_reducible refine (CS.out B D BQ DQ _ HV.out (HS.out.below HB.out) HQ.out).mono ?_
  rintro e_ w6 ⟨rfl, hb⟩
  replace HB := Lib.hid (on_below HB.out hb)
  replace HV := Lib.hid (HV.out.below hb)
  replace HQ := Lib.hid (HQ.out.below hb)
  replace p0 := keepc hb p0
  replace p1 := keepc hb p1
  replace e0 := keepc hb e0
  replace e1 := keepc hb e1
  replace e2 := keepc hb e2
  replace kp := blk_on kp hb
  replace ke := blk_on ke hb
  replace lp := Nat.lt_of_lt_of_le lp hb.size
  replace le := Nat.lt_of_lt_of_le le hb.size
  clear hb
  go_wp2_with fail
  go_ret
  exact ⟨rfl, HB.out⟩
set_option maxRecDepth 100000 in
set_option maxHeartbeats 4000000 in
theorem bod_1 (SA : Option Addr) (SC : Nat) (S : List Bv) (NA : Option Addr) (NC : Nat) (N : List Sv) (ex ey ez : Int) (OA : Option Addr) (OC : Nat) (O : List Bv) (at_ : Int) (ha : 0 ≤ at_ ∧ at_ ≤ 255) (T : List Bv) (M : List Sv) (Q : List Bv) (hX : Cutx S N O T M Q) (hok : Ok3 T M ex ey ez Q) (hlm : Lim T.length Q.length M) (hq0 : Q.length = 0) (w : World) (lS : LC w SA SC S) (lN : LV w NA NC N) (lO : LC w OA OC O) :
    Calls Try.prog 4 #[.agg #[.slice SA S.length SC, .slice NA N.length NC], .agg #[.int .i64 ex, .int .i64 ey, .int .i64 ez], .slice OA O.length OC, .int .u8 at_] w fun e_ w' => e_ = .returned (.bool true) ∧ Below w.heap.size w w' := by
  have CS := Lib.hid (fun B D BQ DQ W (a : SvS W B M) (b : BdS W SA T) (c : BdS W BQ Q) => shares_1 SA SC T B D M ex ey ez BQ DQ Q hX.sml (by have := hX.ql; omega) hok hlm W a b c)
  have HQ0 := Lib.hid hq0
  clear hok hlm ha hq0
  have CF := Lib.hid (fun W (h : SvS W NA N) => few11_is SA SC S NA NC N lS.cap (Nat.le_trans lN.cap.1 lN.cap.2) lN.ca M hX.m T.length (by rw [hX.t]) W h)
  have CQ := Lib.hid (fun W (h : BdS W OA O) => cut_cap OA OC O (Nat.le_trans lO.cap.1 lO.cap.2) lO.ca Q hX.q W h)
  have HS := Lib.hid (show BdS w SA T from hX.t ▸ lS.sl.take 6)
  have HN := Lib.hid lN.sl
  have HO := Lib.hid lO.sl
  have hTl := hX.tl
  have hMl := hX.ml
  have hQl := hX.ql
  clear lS lN lO hX
  go_enter Try.func4, Try.ntmps4
  go_wp2_with fail
  obtain ⟨w1, hw1⟩ : ∃ V, ((w.alloc (.cells #[.slice SA S.length SC, .slice NA N.length NC] 25)).alloc (.cells #[.int .i64 ex, .int .i64 ey, .int .i64 ez] 27)) = V := ⟨_, rfl⟩
  obtain ⟨hB_, kp, ke⟩ := boxes2 _ _ _ hw1
  rw [hw1]
  clear hw1
  have HB := Lib.hid hB_
  clear hB_
  have p0 := (two_cells kp).1
  have p1 := (two_cells kp).2.1
  have lp := block_lt p0
  have e0 := (cells3 ke).1
  have e1 := (cells3 ke).2.1
  have e2 := (cells3 ke).2.2
  have le := block_lt e0
  with_reducible refine (head11_any _).mono ?_
  rintro e_ w2 ⟨rfl, hb⟩
  replace HB := Lib.hid (on_below HB.out hb)
  replace p0 := keepc hb p0
  replace p1 := keepc hb p1
  replace e0 := keepc hb e0
  replace e1 := keepc hb e1
  replace e2 := keepc hb e2
  replace kp := blk_on kp hb
  replace ke := blk_on ke hb
  replace lp := Nat.lt_of_lt_of_le lp hb.size
  replace le := Nat.lt_of_lt_of_le le hb.size
  clear hb
  go_wp2_with fail
  with_reducible refine (CF.out _ (HN.out.below HB.out)).mono ?_
  rintro e_ w3 ⟨B, ⟨D, rfl⟩, hsv, hb⟩
  replace HB := Lib.hid (on_below HB.out hb)
  replace p0 := keepc hb p0
  replace p1 := keepc hb p1
  replace e0 := keepc hb e0
  replace e1 := keepc hb e1
  replace e2 := keepc hb e2
  replace kp := blk_on kp hb
  replace ke := blk_on ke hb
  replace lp := Nat.lt_of_lt_of_le lp hb.size
  replace le := Nat.lt_of_lt_of_le le hb.size
  clear hb
  have hpx : Pbx w3 w.heap.size := ⟨_, _, _, _, _, _, _, kp⟩
  have fp0 : World.frozen? w3 ⟨w.heap.size, 0, none⟩ = false := by simp [World.frozen?, kp]
  have fp1 : World.frozen? w3 ⟨w.heap.size, 1, none⟩ = false := by simp [World.frozen?, kp]
  go_wp2_with fail
  clear CF fp0 fp1 p0 p1 e0 e1 e2 lp le
  have HV := Lib.hid (show SvS ((w3.setCell ⟨w.heap.size, 0, none⟩ (.slice SA T.length SC)).setCell ⟨w.heap.size, 1, none⟩ (.slice B M.length D)) B M from hsv.far hpx)
  clear hsv hpx
  replace kp : ((w3.setCell ⟨w.heap.size, 0, none⟩ (.slice SA T.length SC)).setCell ⟨w.heap.size, 1, none⟩ (.slice B M.length D)).heap[w.heap.size]? = some (.cells #[.slice SA T.length SC, .slice B M.length D] 25 (0, 0)) := set_cells (set_cells kp 0 _) 1 _
  replace ke : ((w3.setCell ⟨w.heap.size, 0, none⟩ (.slice SA T.length SC)).setCell ⟨w.heap.size, 1, none⟩ (.slice B M.length D)).heap[w.heap.size + 1]? = _ := blk_far (blk_far ke (by omega)) (by omega)
  replace HB := Lib.hid (show Below w.heap.size w ((w3.setCell ⟨w.heap.size, 0, none⟩ (.slice SA T.length SC)).setCell ⟨w.heap.size, 1, none⟩ (.slice B M.length D)) from (HB.out.setCell (by simp <;> omega) _).setCell (by simp <;> omega) _)
  generalize ((w3.setCell ⟨w.heap.size, 0, none⟩ (.slice SA T.length SC)).setCell ⟨w.heap.size, 1, none⟩ (.slice B M.length D)) = w4 at *
  have p0 := (two_cells kp).1
  have p1 := (two_cells kp).2.1
  have lp := block_lt p0
  have e0 := (cells3 ke).1
  have e1 := (cells3 ke).2.1
  have e2 := (cells3 ke).2.2
  have le := block_lt e0
  with_reducible refine (CQ.out _ (HO.out.below HB.out)).mono ?_
  rintro e_ w5 ⟨BQ, ⟨DQ, hdq, rfl⟩, hq, hb⟩
  replace HB := Lib.hid (on_below HB.out hb)
  replace HV := Lib.hid (HV.out.below hb)
  replace p0 := keepc hb p0
  replace p1 := keepc hb p1
  replace e0 := keepc hb e0
  replace e1 := keepc hb e1
  replace e2 := keepc hb e2
  replace kp := blk_on kp hb
  replace ke := blk_on ke hb
  replace lp := Nat.lt_of_lt_of_le lp hb.size
  replace le := Nat.lt_of_lt_of_le le hb.size
  clear hb
  have HDQ := Lib.hid hdq
  clear hdq
  clear CQ
  have HQ := Lib.hid hq
  clear hq
  go_wp2_with fail
  with_reducible refine (CS.out B D BQ DQ _ HV.out (HS.out.below HB.out) HQ.out).mono ?_
  rintro e_ w6 ⟨gl, rfl, hl, hb⟩
  replace HB := Lib.hid (on_below HB.out hb)
  replace HV := Lib.hid (HV.out.below hb)
  replace HQ := Lib.hid (HQ.out.below hb)
  replace p0 := keepc hb p0
  replace p1 := keepc hb p1
  replace e0 := keepc hb e0
  replace e1 := keepc hb e1
  replace e2 := keepc hb e2
  replace kp := blk_on kp hb
  replace ke := blk_on ke hb
  replace lp := Nat.lt_of_lt_of_le lp hb.size
  replace le := Nat.lt_of_lt_of_le le hb.size
  clear hb
  generalize (some (⟨gl, 0, none⟩ : Addr)) = lA at *
  have HL := Lib.hid hl
  clear hl
  have q0 : (Q.length : Int) = 0 := by have := HQ0.out; omega
  go_wp2_with fail
  go_ret
  exact ⟨rfl, HB.out⟩
set_option maxRecDepth 100000 in
set_option maxHeartbeats 4000000 in
theorem bod_2 (SA : Option Addr) (SC : Nat) (S : List Bv) (NA : Option Addr) (NC : Nat) (N : List Sv) (ex ey ez : Int) (OA : Option Addr) (OC : Nat) (O : List Bv) (at_ : Int) (ha : 0 ≤ at_ ∧ at_ ≤ 255) (T : List Bv) (M : List Sv) (Q : List Bv) (hX : Cutx S N O T M Q) (hok : Ok3 T M ex ey ez Q) (hlm : Lim T.length Q.length M) (hq0 : 0 < Q.length) (kk : Nat) (hkk : Int.tmod at_ (Q.length : Int) = (kk : Int)) (hkl : kk < Q.length) (w : World) (lS : LC w SA SC S) (lN : LV w NA NC N) (lO : LC w OA OC O) :
    Calls Try.prog 4 #[.agg #[.slice SA S.length SC, .slice NA N.length NC], .agg #[.int .i64 ex, .int .i64 ey, .int .i64 ez], .slice OA O.length OC, .int .u8 at_] w fun e_ w' => e_ = .returned (.bool true) ∧ Below w.heap.size w w' := by
  have CS := Lib.hid (fun B D BQ DQ W (a : SvS W B M) (b : BdS W SA T) (c : BdS W BQ Q) => shares_1 SA SC T B D M ex ey ez BQ DQ Q hX.sml (by have := hX.ql; omega) hok hlm W a b c)
  obtain ⟨X, hXd⟩ : ∃ X, Q.drop kk = X := ⟨_, rfl⟩
  obtain ⟨Y, hYd⟩ : ∃ Y, Q.take kk = Y := ⟨_, rfl⟩
  obtain ⟨Z, hZd⟩ : ∃ Z, Q.drop 1 = Z := ⟨_, rfl⟩
  have hxl : X.length = Q.length - kk := by rw [← hXd, List.length_drop]
  have hyl : Y.length = kk := by rw [← hYd, List.length_take]; omega
  have hzl : Z.length = Q.length - 1 := by rw [← hZd, List.length_drop]
  have hj := ok3_sub (Z := X ++ Y) hok hlm (fun b hb => rot_mem b |>.1 (by rw [hXd, hYd]; exact hb)) (by rw [List.length_append]; omega)
  have hz := ok3_sub (Z := Z) hok hlm (fun b hb => by rw [← hZd] at hb; exact List.mem_of_mem_drop hb) (by omega)
  have hshl : shl ex ey ez T M (X ++ Y) = shl ex ey ez T M Q := by rw [← hXd, ← hYd]; exact shl_rot kk
  have C2 := Lib.hid (fun B D A C W (a : SvS W B M) (b : BdS W SA T) (c : BdS W A (X ++ Y)) => shares_1 SA SC T B D M ex ey ez A C (X ++ Y) hX.sml (by have := hX.ql; rw [List.length_append]; omega) hj.1 hj.2 W a b c)
  rw [hshl] at C2
  have C3 := Lib.hid (fun B D A C W (a : SvS W B M) (b : BdS W SA T) (c : BdS W A Z) => shares_1 SA SC T B D M ex ey ez A C Z hX.sml (by have := hX.ql; omega) hz.1 hz.2 W a b c)
  have HR := Lib.hid (fun k (hk : k < M.length) => bles_of (Z := Z) hok (fun b hb => by rw [← hZd] at hb; exact List.mem_of_mem_drop hb) hk)
  have hll := shl_len ex ey ez T M Q
  have hlk := shl_len ex ey ez T M Z
  generalize shl ex ey ez T M Q = L at *
  generalize shl ex ey ez T M Z = K at *
  have HLL := Lib.hid hll
  have HLK := Lib.hid hlk
  have CSA := Lib.hid (fun (A A2 : Option Addr) W (a : SlS W A L) (b : SlS W A2 L) => show Calls Try.prog 18 #[.slice A M.length M.length, .slice A2 M.length M.length] W (fun e_ w' => e_ = .returned (.bool true) ∧ Below W.heap.size W w') from by have h := rsames_is A A2 M.length M.length L L (by have := hX.ml; omega) (by have := hX.ml; omega) true (iff_of_true rfl rfl) W a b; rw [hll] at h; exact h)
  have HXX := Lib.hid (fun (W : World) (A : Option Addr) (h : BdS W A Q) {C : Nat} (hc : Q.length ≤ C) => (hXd ▸ h.drop kk C hc : BdS W (adr A C kk 3) X))
  have HYY := Lib.hid (fun (W : World) (A : Option Addr) (h : BdS W A Q) => (hYd ▸ h.take kk : BdS W A Y))
  have HZZ := Lib.hid (fun (W : World) (A : Option Addr) (h : BdS W A Q) {C : Nat} (hc : Q.length ≤ C) => (hZd ▸ h.drop 1 C hc : BdS W (adr A C 1 3) Z))
  have HYL := Lib.hid hyl
  have q0 : ¬ (Q.length : Int) = 0 := by omega
  have q1 : ((Q.length : Int) == 0) = false := by rw [beq_eq_false_iff_ne]; exact q0
  have q2 : decide ((Q.length : Int) = 0) = false := decide_eq_false q0
  have wa1 : IntKind.i64.wrap at_ = at_ := IntWalk.i64_in _ ⟨by omega, by omega⟩
  have wa2 : wrap64 at_ = at_ := IntWalk.wrap64_in _ ⟨by omega, by omega⟩
  obtain ⟨i0, hi0, hz0, hz1, hz2⟩ := info_of (show (Try.prog.info? 59).map (fun i => (i.zero, i.size, i.bytes)) = some (some (.agg #[.slice none 0 0, .int .i64 0, .int .i64 0]), 3, 40) by kernel_rfl)
  have k7_ : Q.length - kk = X.length := by omega
  have m7_ : Q.length - 1 = Z.length := by omega
  clear hok hlm ha hXd hYd hZd hj hz hshl hll hlk hyl hxl hzl
  have CF := Lib.hid (fun W (h : SvS W NA N) => few11_is SA SC S NA NC N lS.cap (Nat.le_trans lN.cap.1 lN.cap.2) lN.ca M hX.m T.length (by rw [hX.t]) W h)
  have CQ := Lib.hid (fun W (h : BdS W OA O) => cut_cap OA OC O (Nat.le_trans lO.cap.1 lO.cap.2) lO.ca Q hX.q W h)
  have HS := Lib.hid (show BdS w SA T from hX.t ▸ lS.sl.take 6)
  have HN := Lib.hid lN.sl
  have HO := Lib.hid lO.sl
  have hTl := hX.tl
  have hMl := hX.ml
  have hQl := hX.ql
  clear lS lN lO hX
  go_enter Try.func4, Try.ntmps4
  go_wp2_with fail
  obtain ⟨w1, hw1⟩ : ∃ V, ((w.alloc (.cells #[.slice SA S.length SC, .slice NA N.length NC] 25)).alloc (.cells #[.int .i64 ex, .int .i64 ey, .int .i64 ez] 27)) = V := ⟨_, rfl⟩
  obtain ⟨hB_, kp, ke⟩ := boxes2 _ _ _ hw1
  rw [hw1]
  clear hw1
  have HB := Lib.hid hB_
  clear hB_
  have p0 := (two_cells kp).1
  have p1 := (two_cells kp).2.1
  have lp := block_lt p0
  have e0 := (cells3 ke).1
  have e1 := (cells3 ke).2.1
  have e2 := (cells3 ke).2.2
  have le := block_lt e0
  with_reducible refine (head11_any _).mono ?_
  rintro e_ w2 ⟨rfl, hb⟩
  replace HB := Lib.hid (on_below HB.out hb)
  replace p0 := keepc hb p0
  replace p1 := keepc hb p1
  replace e0 := keepc hb e0
  replace e1 := keepc hb e1
  replace e2 := keepc hb e2
  replace kp := blk_on kp hb
  replace ke := blk_on ke hb
  replace lp := Nat.lt_of_lt_of_le lp hb.size
  replace le := Nat.lt_of_lt_of_le le hb.size
  clear hb
  go_wp2_with fail
  with_reducible refine (CF.out _ (HN.out.below HB.out)).mono ?_
  rintro e_ w3 ⟨B, ⟨D, rfl⟩, hsv, hb⟩
  replace HB := Lib.hid (on_below HB.out hb)
  replace p0 := keepc hb p0
  replace p1 := keepc hb p1
  replace e0 := keepc hb e0
  replace e1 := keepc hb e1
  replace e2 := keepc hb e2
  replace kp := blk_on kp hb
  replace ke := blk_on ke hb
  replace lp := Nat.lt_of_lt_of_le lp hb.size
  replace le := Nat.lt_of_lt_of_le le hb.size
  clear hb
  have hpx : Pbx w3 w.heap.size := ⟨_, _, _, _, _, _, _, kp⟩
  have fp0 : World.frozen? w3 ⟨w.heap.size, 0, none⟩ = false := by simp [World.frozen?, kp]
  have fp1 : World.frozen? w3 ⟨w.heap.size, 1, none⟩ = false := by simp [World.frozen?, kp]
  go_wp2_with fail
  clear CF fp0 fp1 p0 p1 e0 e1 e2 lp le
  have HV := Lib.hid (show SvS ((w3.setCell ⟨w.heap.size, 0, none⟩ (.slice SA T.length SC)).setCell ⟨w.heap.size, 1, none⟩ (.slice B M.length D)) B M from hsv.far hpx)
  clear hsv hpx
  replace kp : ((w3.setCell ⟨w.heap.size, 0, none⟩ (.slice SA T.length SC)).setCell ⟨w.heap.size, 1, none⟩ (.slice B M.length D)).heap[w.heap.size]? = some (.cells #[.slice SA T.length SC, .slice B M.length D] 25 (0, 0)) := set_cells (set_cells kp 0 _) 1 _
  replace ke : ((w3.setCell ⟨w.heap.size, 0, none⟩ (.slice SA T.length SC)).setCell ⟨w.heap.size, 1, none⟩ (.slice B M.length D)).heap[w.heap.size + 1]? = _ := blk_far (blk_far ke (by omega)) (by omega)
  replace HB := Lib.hid (show Below w.heap.size w ((w3.setCell ⟨w.heap.size, 0, none⟩ (.slice SA T.length SC)).setCell ⟨w.heap.size, 1, none⟩ (.slice B M.length D)) from (HB.out.setCell (by simp <;> omega) _).setCell (by simp <;> omega) _)
  generalize ((w3.setCell ⟨w.heap.size, 0, none⟩ (.slice SA T.length SC)).setCell ⟨w.heap.size, 1, none⟩ (.slice B M.length D)) = w4 at *
  have p0 := (two_cells kp).1
  have p1 := (two_cells kp).2.1
  have lp := block_lt p0
  have e0 := (cells3 ke).1
  have e1 := (cells3 ke).2.1
  have e2 := (cells3 ke).2.2
  have le := block_lt e0
  with_reducible refine (CQ.out _ (HO.out.below HB.out)).mono ?_
  rintro e_ w5 ⟨BQ, ⟨DQ, hdq, rfl⟩, hq, hb⟩
  replace HB := Lib.hid (on_below HB.out hb)
  replace HV := Lib.hid (HV.out.below hb)
  replace p0 := keepc hb p0
  replace p1 := keepc hb p1
  replace e0 := keepc hb e0
  replace e1 := keepc hb e1
  replace e2 := keepc hb e2
  replace kp := blk_on kp hb
  replace ke := blk_on ke hb
  replace lp := Nat.lt_of_lt_of_le lp hb.size
  replace le := Nat.lt_of_lt_of_le le hb.size
  clear hb
  have HDQ := Lib.hid hdq
  clear hdq
  clear CQ
  have HQ := Lib.hid hq
  clear hq
  go_wp2_with fail
  with_reducible refine (CS.out B D BQ DQ _ HV.out (HS.out.below HB.out) HQ.out).mono ?_
  rintro e_ w6 ⟨gl, rfl, hl, hb⟩
  replace HB := Lib.hid (on_below HB.out hb)
  replace HV := Lib.hid (HV.out.below hb)
  replace HQ := Lib.hid (HQ.out.below hb)
  replace p0 := keepc hb p0
  replace p1 := keepc hb p1
  replace e0 := keepc hb e0
  replace e1 := keepc hb e1
  replace e2 := keepc hb e2
  replace kp := blk_on kp hb
  replace ke := blk_on ke hb
  replace lp := Nat.lt_of_lt_of_le lp hb.size
  replace le := Nat.lt_of_lt_of_le le hb.size
  clear hb
  generalize (some (⟨gl, 0, none⟩ : Addr)) = lA at *
  have HL := Lib.hid hl
  clear hl
  go_wp2_with fail
  have hd1 := HDQ.out.1
  have hd2 := HDQ.out.2
  have k1_ : (kk : Int) ≤ (Q.length : Int) := by omega
  have k2_ : (0 : Int) ≤ (kk : Int) := by omega
  have k3_ : (kk : Int) ≤ (DQ : Int) := by omega
  have k4_ : (Q.length : Int) ≤ (DQ : Int) := by omega
  have k5_ : kk ≤ Q.length := by omega
  have k6_ : kk ≤ DQ := by omega
  have k8_ : (if DQ = kk then BQ else BQ.map fun x => x.add (kk * 3)) = adr BQ DQ kk 3 := adr_eq k6_
  have k9_ := map_zero BQ DQ
  have k10_ : kk - 0 = kk := rfl
  have own0 := (own_lit w6 w6.heap.size 59 3 (Nat.le_refl _)).drew
  have hb0 : Below w6.heap.size w6 (w6.alloc (.cells #[] 59)).drew := (below_new w6 (.cells #[] 59)).drew
  have HOWN := Lib.hid own0
  clear own0
  have kp : ∀ {W : World}, Below w6.heap.size w6 W → W.cell? ⟨w.heap.size, 0, none⟩ = some (.slice SA T.length SC) ∧ W.cell? ⟨w.heap.size, 1, none⟩ = some (.slice B M.length D) ∧ W.cell? ⟨w.heap.size + 1, 0, none⟩ = some (.int .i64 ex) ∧ W.cell? ⟨w.heap.size + 1, 1, none⟩ = some (.int .i64 ey) ∧ W.cell? ⟨w.heap.size + 1, 2, none⟩ = some (.int .i64 ez) := fun h => ⟨keepc h p0, keepc h p1, keepc h e0, keepc h e1, keepc h e2⟩
  refine wp_region_held_drew (S := fun V => V.cell? ⟨w.heap.size, 0, none⟩ = some (.slice SA T.length SC) ∧ V.cell? ⟨w.heap.size, 1, none⟩ = some (.slice B M.length D) ∧ V.cell? ⟨w.heap.size + 1, 0, none⟩ = some (.int .i64 ex) ∧ V.cell? ⟨w.heap.size + 1, 1, none⟩ = some (.int .i64 ey) ∧ V.cell? ⟨w.heap.size + 1, 2, none⟩ = some (.int .i64 ez)) (by kernel_rfl) (kp (Below.refl _ _).drew) fun HL_ => ?_
  refine wpAnyH_take (i := 1) (v := .slice BQ Q.length DQ) rfl (by kernel_rfl) (by kernel_rfl) (by kernel_rfl) (fun _ _ _ h => h) (Or.inl ⟨by kernel_rfl, ?_⟩) HL_ ?_
  · rintro Wl ⟨s0, s1, s2, s3, s4⟩
    go_simp
  simp only [Act.put, List.getElem_toArray, List.getElem_cons_succ, List.getElem_cons_zero, List.setIfInBounds_toArray, List.set_cons_zero, List.set_cons_succ]
  refine wpAnyH_take (i := 2) (v := .int .i64 kk) rfl (by kernel_rfl) (by kernel_rfl) (by kernel_rfl) (fun _ _ _ h => h) (Or.inl ⟨by kernel_rfl, ?_⟩) HL_ ?_
  · rintro Wl ⟨s0, s1, s2, s3, s4⟩
    go_simp
  simp only [Act.put, List.getElem_toArray, List.getElem_cons_succ, List.getElem_cons_zero, List.setIfInBounds_toArray, List.set_cons_zero, List.set_cons_succ]
  refine wpAnyH_take (i := 3) (v := .slice (adr BQ DQ kk 3) X.length (DQ - kk)) rfl (by kernel_rfl) (by kernel_rfl) (by kernel_rfl) (fun _ _ _ h => h) (Or.inl ⟨by kernel_rfl, ?_⟩) HL_ ?_
  · rintro Wl ⟨s0, s1, s2, s3, s4⟩
    go_simp
  simp only [Act.put, List.getElem_toArray, List.getElem_cons_succ, List.getElem_cons_zero, List.setIfInBounds_toArray, List.set_cons_zero, List.set_cons_succ]
  refine wpAnyH_take (i := 5) (v := .slice BQ Q.length DQ) rfl (by kernel_rfl) (by kernel_rfl) (by kernel_rfl) (fun _ _ _ h => h) (Or.inl ⟨by kernel_rfl, ?_⟩) HL_ ?_
  · rintro Wl ⟨s0, s1, s2, s3, s4⟩
    go_simp
  simp only [Act.put, List.getElem_toArray, List.getElem_cons_succ, List.getElem_cons_zero, List.setIfInBounds_toArray, List.set_cons_zero, List.set_cons_succ]
  refine wpAnyH_take (i := 6) (v := .int .i64 kk) rfl (by kernel_rfl) (by kernel_rfl) (by kernel_rfl) (fun _ _ _ h => h) (Or.inl ⟨by kernel_rfl, ?_⟩) HL_ ?_
  · rintro Wl ⟨s0, s1, s2, s3, s4⟩
    go_simp
  simp only [Act.put, List.getElem_toArray, List.getElem_cons_succ, List.getElem_cons_zero, List.setIfInBounds_toArray, List.set_cons_zero, List.set_cons_succ]
  refine wpAnyH_take (i := 7) (v := .slice BQ kk DQ) rfl (by kernel_rfl) (by kernel_rfl) (by kernel_rfl) (fun _ _ _ h => h) (Or.inl ⟨by kernel_rfl, ?_⟩) HL_ ?_
  · rintro Wl ⟨s0, s1, s2, s3, s4⟩
    go_simp
  simp only [Act.put, List.getElem_toArray, List.getElem_cons_succ, List.getElem_cons_zero, List.setIfInBounds_toArray, List.set_cons_zero, List.set_cons_succ]
  refine wpAnyH_ready (rs := [0]) (by kernel_rfl) (by simp) ?_
  refine AllReadyH.cons (o := _) rfl (fun K hK => ?_) AllReadyH.nil
  go_simp
  refine hK.out _ _ (kp hb0) fun HL_ => ?_
  clear hK K
  have own0 := HOWN.out
  clear HOWN
  generalize (w6.alloc (.cells #[] 59)).drew = ua0 at *
  refine wpAnyH_ready (rs := [4]) (by kernel_rfl) (by simp) ?_
  refine AllReadyH.cons (o := _) rfl (fun K hK => ?_) AllReadyH.nil
  skip
  refine step_app _ (by rfl) _ _ _ (by rfl) w6.heap.size 59 i0 _ 3 40 Try.underlying22 hi0 hz0 hz1 hz2 rfl (by decide) _ 0 [] (by rfl) own0 (adr BQ DQ kk 3) X.length (DQ - kk) (flt bvc X) (by rfl) (flt_len bvc_len X) (bds_src (HXX.out _ _ (HQ.out.below hb0) hd1)) (flt_one bvc_one X) (by unfold maxLen; omega) (by omega) hb0.size ?_
  intro v1 ua1 own1 gr1
  have hb1 := app_below hb0 hb0.size own0 (Nat.le_refl _) gr1
  clear gr1 own0 hb0
  refine hK.out _ _ (kp hb1) fun HL_ => ?_
  clear hK K
  refine wpAnyH_ready (rs := [8]) (by kernel_rfl) (by simp) ?_
  refine AllReadyH.cons (o := _) rfl (fun K hK => ?_) AllReadyH.nil
  refine step_app _ (by rfl) _ _ _ (by rfl) w6.heap.size 59 i0 _ 3 40 Try.underlying22 hi0 hz0 hz1 hz2 rfl (by decide) _ (0 + X.length) ([] ++ flt bvc X) (by rfl) own1 BQ kk DQ (flt bvc Y) (by rfl) (by rw [flt_len bvc_len Y, HYL.out]) (bds_src (HYY.out _ _ (HQ.out.below hb1))) (flt_one bvc_one Y) (by unfold maxLen; omega) (by omega) hb1.size ?_
  intro v2 ua2 own2 gr2
  have hb2 := app_below hb1 hb1.size own1 (Nat.le_refl _) gr2
  clear gr2 own1 hb1
  refine hK.out _ _ (kp hb2) fun HL_ => ?_
  clear hK K
  rw [List.nil_append, flt_app] at own2
  obtain ⟨xA, xC, rfl, _, _, _, hxs⟩ := own_bds own2 (sls_apz (bds_sls (HXX.out _ _ (HQ.out.below hb2) hd1)) (HYY.out _ _ (HQ.out.below hb2)))
  clear own2
  refine wpAnyH_take (i := 9) (v := .slice xA (X ++ Y).length xC) rfl (by kernel_rfl) (by kernel_rfl) (by kernel_rfl) (fun _ _ _ h => h) (Or.inl ⟨by kernel_rfl, ?_⟩) HL_ ?_
  · rintro Wl ⟨s0, s1, s2, s3, s4⟩
    go_simp
  simp only [Act.put, List.getElem_toArray, List.getElem_cons_succ, List.getElem_cons_zero, List.setIfInBounds_toArray, List.set_cons_zero, List.set_cons_succ]
  refine wpAnyH_done (by kernel_rfl) ?_ _
  clear HL_ kp
  have hb := hb2
  clear hb2
  generalize X ++ Y = J at *
  replace HB := Lib.hid (on_below HB.out hb)
  replace HV := Lib.hid (HV.out.below hb)
  replace HQ := Lib.hid (HQ.out.below hb)
  replace HL := Lib.hid (HL.out.below hb)
  replace p0 := keepc hb p0
  replace p1 := keepc hb p1
  replace e0 := keepc hb e0
  replace e1 := keepc hb e1
  replace e2 := keepc hb e2
  replace kp := blk_on kp hb
  replace ke := blk_on ke hb
  replace lp := Nat.lt_of_lt_of_le lp hb.size
  replace le := Nat.lt_of_lt_of_le le hb.size
  clear hb
  have HJ := Lib.hid hxs
  clear hxs
  go_wp2_with fail
  with_reducible refine (C2.out B D xA xC _ HV.out (HS.out.below HB.out) HJ.out).mono ?_
  rintro e_ w7 ⟨gl, rfl, hl, hb⟩
  replace HB := Lib.hid (on_below HB.out hb)
  replace HV := Lib.hid (HV.out.below hb)
  replace HQ := Lib.hid (HQ.out.below hb)
  replace HL := Lib.hid (HL.out.below hb)
  replace HJ := Lib.hid (HJ.out.below hb)
  replace p0 := keepc hb p0
  replace p1 := keepc hb p1
  replace e0 := keepc hb e0
  replace e1 := keepc hb e1
  replace e2 := keepc hb e2
  replace kp := blk_on kp hb
  replace ke := blk_on ke hb
  replace lp := Nat.lt_of_lt_of_le lp hb.size
  replace le := Nat.lt_of_lt_of_le le hb.size
  clear hb
  generalize (some (⟨gl, 0, none⟩ : Addr)) = lB at *
  have HL2 := Lib.hid hl
  clear hl
  go_wp2_with fail
  have m1_ : (1 : Int) ≤ (Q.length : Int) := by omega
  have m3_ : (1 : Int) ≤ (DQ : Int) := by omega
  have m5_ : 1 ≤ Q.length := by omega
  have m6_ : 1 ≤ DQ := by omega
  have m8_ : (if DQ = 1 then BQ else BQ.map fun x => ({ block := x.block, off := x.off + 3 } : Addr)) = adr BQ DQ 1 3 := adr_eq (A := BQ) (C := DQ) (k := 1) (n := 3) m6_
  clear k1_ k2_ k3_ k5_ k6_ k7_ k8_ k10_
  have kp : ∀ {Wq_ : World}, Below w7.heap.size w7 Wq_ → Wq_.cell? ⟨w.heap.size, 0, none⟩ = some (.slice SA T.length SC) ∧ Wq_.cell? ⟨w.heap.size, 1, none⟩ = some (.slice B M.length D) ∧ Wq_.cell? ⟨w.heap.size + 1, 0, none⟩ = some (.int .i64 ex) ∧ Wq_.cell? ⟨w.heap.size + 1, 1, none⟩ = some (.int .i64 ey) ∧ Wq_.cell? ⟨w.heap.size + 1, 2, none⟩ = some (.int .i64 ez) := fun h => ⟨keepc h p0, keepc h p1, keepc h e0, keepc h e1, keepc h e2⟩
  refine wp_region_held_drew (S := fun Wq_ => Wq_.cell? ⟨w.heap.size, 0, none⟩ = some (.slice SA T.length SC) ∧ Wq_.cell? ⟨w.heap.size, 1, none⟩ = some (.slice B M.length D) ∧ Wq_.cell? ⟨w.heap.size + 1, 0, none⟩ = some (.int .i64 ex) ∧ Wq_.cell? ⟨w.heap.size + 1, 1, none⟩ = some (.int .i64 ey) ∧ Wq_.cell? ⟨w.heap.size + 1, 2, none⟩ = some (.int .i64 ez)) (by kernel_rfl) (kp (Below.refl _ _).drew) fun HL_ => ?_
  refine wpAnyH_take (i := 0) (v := .agg #[.slice SA T.length SC, .slice B M.length D]) rfl (by kernel_rfl) (by kernel_rfl) (by kernel_rfl) (fun _ _ _ h => h) (Or.inl ⟨by kernel_rfl, ?_⟩) HL_ ?_
  · rintro Wl ⟨s0, s1, s2, s3, s4⟩
    go_simp
  simp only [Act.put, List.getElem_toArray, List.getElem_cons_succ, List.getElem_cons_zero, List.setIfInBounds_toArray, List.set_cons_zero, List.set_cons_succ]
  refine wpAnyH_take (i := 1) (v := .agg #[.int .i64 ex, .int .i64 ey, .int .i64 ez]) rfl (by kernel_rfl) (by kernel_rfl) (by kernel_rfl) (fun _ _ _ h => h) (Or.inl ⟨by kernel_rfl, ?_⟩) HL_ ?_
  · rintro Wl ⟨s0, s1, s2, s3, s4⟩
    go_simp
  simp only [Act.put, List.getElem_toArray, List.getElem_cons_succ, List.getElem_cons_zero, List.setIfInBounds_toArray, List.set_cons_zero, List.set_cons_succ]
  refine wpAnyH_take (i := 2) (v := .slice BQ Q.length DQ) rfl (by kernel_rfl) (by kernel_rfl) (by kernel_rfl) (fun _ _ _ h => h) (Or.inl ⟨by kernel_rfl, ?_⟩) HL_ ?_
  · rintro Wl ⟨s0, s1, s2, s3, s4⟩
    go_simp
  simp only [Act.put, List.getElem_toArray, List.getElem_cons_succ, List.getElem_cons_zero, List.setIfInBounds_toArray, List.set_cons_zero, List.set_cons_succ]
  refine wpAnyH_take (i := 3) (v := .slice (adr BQ DQ 1 3) Z.length (DQ - 1)) rfl (by kernel_rfl) (by kernel_rfl) (by kernel_rfl) (fun _ _ _ h => h) (Or.inl ⟨by kernel_rfl, ?_⟩) HL_ ?_
  · rintro Wl ⟨s0, s1, s2, s3, s4⟩
    go_simp
  simp only [Act.put, List.getElem_toArray, List.getElem_cons_succ, List.getElem_cons_zero, List.setIfInBounds_toArray, List.set_cons_zero, List.set_cons_succ]
  refine wpAnyH_ready (rs := [4]) (by kernel_rfl) (by simp) ?_
  refine AllReadyH.cons (o := _) rfl (fun K hK => ?_) AllReadyH.nil
  go_simp
  with_reducible refine (C3.out B D (adr BQ DQ 1 3) (DQ - 1) _ (HV.out.below (Below.refl _ _).drew) (HS.out.below (on_below HB.out (Below.refl _ _).drew)) (HZZ.out _ _ (HQ.out.below (Below.refl _ _).drew) HDQ.out.1)).mono ?_
  rintro e_ ud1 ⟨g3, rfl, hl3, hb⟩
  have hbX : Below w7.heap.size w7 ud1 := undrew_b hb
  clear hb
  generalize (some (⟨g3, 0, none⟩ : Addr)) = lC at *
  have HL3 := Lib.hid hl3
  clear hl3
  refine hK.out _ _ (kp hbX) fun HL_ => ?_
  clear hK K
  refine wpAnyH_take (i := 5) (v := .tuple #[.slice lC M.length M.length, .int .i64 0]) rfl (by kernel_rfl) (by kernel_rfl) (by kernel_rfl) (fun _ _ _ h => h) (Or.inl ⟨by kernel_rfl, ?_⟩) HL_ ?_
  · rintro Wl ⟨s0, s1, s2, s3, s4⟩
    go_simp
  simp only [Act.put, List.getElem_toArray, List.getElem_cons_succ, List.getElem_cons_zero, List.setIfInBounds_toArray, List.set_cons_zero, List.set_cons_succ]
  refine wpAnyH_take (i := 6) (v := .slice lC M.length M.length) rfl (by kernel_rfl) (by kernel_rfl) (by kernel_rfl) (fun _ _ _ h => h) (Or.inl ⟨by kernel_rfl, ?_⟩) HL_ ?_
  · rintro Wl ⟨s0, s1, s2, s3, s4⟩
    go_simp
  simp only [Act.put, List.getElem_toArray, List.getElem_cons_succ, List.getElem_cons_zero, List.setIfInBounds_toArray, List.set_cons_zero, List.set_cons_succ]
  refine wpAnyH_take (i := 7) (v := .int .i64 0) rfl (by kernel_rfl) (by kernel_rfl) (by kernel_rfl) (fun _ _ _ h => h) (Or.inl ⟨by kernel_rfl, ?_⟩) HL_ ?_
  · rintro Wl ⟨s0, s1, s2, s3, s4⟩
    go_simp
  simp only [Act.put, List.getElem_toArray, List.getElem_cons_succ, List.getElem_cons_zero, List.setIfInBounds_toArray, List.set_cons_zero, List.set_cons_succ]
  refine wpAnyH_take (i := 8) (v := .slice lC M.length M.length) rfl (by kernel_rfl) (by kernel_rfl) (by kernel_rfl) (fun _ _ _ h => h) (Or.inl ⟨by kernel_rfl, ?_⟩) HL_ ?_
  · rintro Wl ⟨s0, s1, s2, s3, s4⟩
    go_simp
  simp only [Act.put, List.getElem_toArray, List.getElem_cons_succ, List.getElem_cons_zero, List.setIfInBounds_toArray, List.set_cons_zero, List.set_cons_succ]
  refine wpAnyH_take (i := 9) (v := .int .i64 0) rfl (by kernel_rfl) (by kernel_rfl) (by kernel_rfl) (fun _ _ _ h => h) (Or.inl ⟨by kernel_rfl, ?_⟩) HL_ ?_
  · rintro Wl ⟨s0, s1, s2, s3, s4⟩
    go_simp
  simp only [Act.put, List.getElem_toArray, List.getElem_cons_succ, List.getElem_cons_zero, List.setIfInBounds_toArray, List.set_cons_zero, List.set_cons_succ]
  refine wpAnyH_done (by kernel_rfl) ?_ _
  clear HL_ kp
  have hb := hbX
  clear hbX
  replace HB := Lib.hid (on_below HB.out hb)
  replace HV := Lib.hid (HV.out.below hb)
  replace HQ := Lib.hid (HQ.out.below hb)
  replace HL := Lib.hid (HL.out.below hb)
  replace HJ := Lib.hid (HJ.out.below hb)
  replace HL2 := Lib.hid (HL2.out.below hb)
  replace p0 := keepc hb p0
  replace p1 := keepc hb p1
  replace e0 := keepc hb e0
  replace e1 := keepc hb e1
  replace e2 := keepc hb e2
  replace kp := blk_on kp hb
  replace ke := blk_on ke hb
  replace lp := Nat.lt_of_lt_of_le lp hb.size
  replace le := Nat.lt_of_lt_of_le le hb.size
  clear hb
  clear C3 m1_ m3_ m5_ m6_ m7_ m8_ k4_ k9_ hd1 hd2
  go_wp2_with fail
  with_reducible refine (CSA.out _ _ _ HL.out HL2.out).mono ?_
  rintro e_ w8 ⟨rfl, hb⟩
  replace HB := Lib.hid (on_below HB.out hb)
  replace HV := Lib.hid (HV.out.below hb)
  replace HQ := Lib.hid (HQ.out.below hb)
  replace HL := Lib.hid (HL.out.below hb)
  replace HJ := Lib.hid (HJ.out.below hb)
  replace HL2 := Lib.hid (HL2.out.below hb)
  replace HL3 := Lib.hid (HL3.out.below hb)
  replace p0 := keepc hb p0
  replace p1 := keepc hb p1
  replace e0 := keepc hb e0
  replace e1 := keepc hb e1
  replace e2 := keepc hb e2
  replace kp := blk_on kp hb
  replace ke := blk_on ke hb
  replace lp := Nat.lt_of_lt_of_le lp hb.size
  replace le := Nat.lt_of_lt_of_le le hb.size
  clear hb
  go_wp2_with fail
  go_loopw [18] (fun i wr => ∃ k : Nat, k ≤ M.length ∧ i = .int .i64 k ∧ Below w8.heap.size w8 wr) (fun i _ => M.length - (intOf i).toNat)
  case atStart => exact ⟨0, Nat.zero_le _, rfl, Below.refl _ _⟩
  case round =>
    obtain ⟨k, hk, rfl, hW⟩ := hrel
    have w1_ : IntKind.i64.wrap ((k : Int) + 1) = (k : Int) + 1 := IntWalk.i64_in _ ⟨by omega, by omega⟩
    have w2_ : wrap64 ((k : Int) + 1) = (k : Int) + 1 := IntWalk.wrap64_in _ ⟨by omega, by omega⟩
    by_cases hlt : k < M.length
    · obtain ⟨b0, o0, hA0, f0, f1⟩ := HL.out.below hW k (by rw [HLL.out]; exact hlt)
      subst hA0
      obtain ⟨b1, o1, hA1, f2, f3⟩ := HL3.out.below hW k (by rw [HLK.out]; exact hlt)
      subst hA1
      obtain ⟨a, b, c, d, s, hab, hcd, hv1, hv2, hs, h3⟩ := HR.out k hlt
      rw [hab] at f0 f1
      rw [hcd] at f2 f3
      dsimp only at f0 f1 f2 f3
      clear hab hcd
      have CC := Lib.hid (fun W => cmp_any a b c d W (vld_i64 hv1).1 (vld_i64 hv1).2 (vld_i64 hv2).1 (vld_i64 hv2).2)
      rw [show (vld a b && vld c d) = true by rw [hv1, hv2]; rfl] at CC
      simp only [cmpR, cmpE, if_true] at CC
      rw [hs] at CC
      clear hs hv1 hv2
      have g0 : decide (0 < s) = false := decide_eq_false (by omega)
      clear h3
      have HW := Lib.hid hW
      clear hW p0 p1 e0 e1 e2
      go_wp2_with fail
      have kp : ∀ {Wq_ : World}, Below wr.heap.size wr Wq_ → Wq_.cell? ⟨b0, o0 + k * 2, none⟩ = some (.int .i64 a) ∧ Wq_.cell? ⟨b0, o0 + k * 2 + 1, none⟩ = some (.int .i64 b) ∧ Wq_.cell? ⟨b1, o1 + k * 2, none⟩ = some (.int .i64 c) ∧ Wq_.cell? ⟨b1, o1 + k * 2 + 1, none⟩ = some (.int .i64 d) := fun h => ⟨keepc h f0, keepc h f1, keepc h f2, keepc h f3⟩
      refine wp_region_held_drew (S := fun Wq_ => Wq_.cell? ⟨b0, o0 + k * 2, none⟩ = some (.int .i64 a) ∧ Wq_.cell? ⟨b0, o0 + k * 2 + 1, none⟩ = some (.int .i64 b) ∧ Wq_.cell? ⟨b1, o1 + k * 2, none⟩ = some (.int .i64 c) ∧ Wq_.cell? ⟨b1, o1 + k * 2 + 1, none⟩ = some (.int .i64 d)) (by kernel_rfl) (kp (Below.refl _ _).drew) fun HL_ => ?_
      refine wpAnyH_take (i := 0) (v := .slice (some ⟨b0, o0, none⟩) M.length M.length) rfl (by kernel_rfl) (by kernel_rfl) (by kernel_rfl) (fun _ _ _ h => h) (Or.inl ⟨by kernel_rfl, ?_⟩) HL_ ?_
      · rintro Wl ⟨s0, s1, s2, s3⟩
        go_simp
      simp only [Act.put, List.getElem_toArray, List.getElem_cons_succ, List.getElem_cons_zero, List.setIfInBounds_toArray, List.set_cons_zero, List.set_cons_succ]
      refine wpAnyH_take (i := 1) (v := .int .i64 k) rfl (by kernel_rfl) (by kernel_rfl) (by kernel_rfl) (fun _ _ _ h => h) (Or.inl ⟨by kernel_rfl, ?_⟩) HL_ ?_
      · rintro Wl ⟨s0, s1, s2, s3⟩
        go_simp
      simp only [Act.put, List.getElem_toArray, List.getElem_cons_succ, List.getElem_cons_zero, List.setIfInBounds_toArray, List.set_cons_zero, List.set_cons_succ]
      refine wpAnyH_take (i := 2) (v := .pointer (some ⟨b0, o0 + k * 2, none⟩)) rfl (by kernel_rfl) (by kernel_rfl) (by kernel_rfl) (fun _ _ _ h => h) (Or.inl ⟨by kernel_rfl, ?_⟩) HL_ ?_
      · rintro Wl ⟨s0, s1, s2, s3⟩
        go_simp
      simp only [Act.put, List.getElem_toArray, List.getElem_cons_succ, List.getElem_cons_zero, List.setIfInBounds_toArray, List.set_cons_zero, List.set_cons_succ]
      refine wpAnyH_take (i := 3) (v := .agg #[.int .i64 a, .int .i64 b]) rfl (by kernel_rfl) (by kernel_rfl) (by kernel_rfl) (fun _ _ _ h => h) (Or.inl ⟨by kernel_rfl, ?_⟩) HL_ ?_
      · rintro Wl ⟨s0, s1, s2, s3⟩
        go_simp
      simp only [Act.put, List.getElem_toArray, List.getElem_cons_succ, List.getElem_cons_zero, List.setIfInBounds_toArray, List.set_cons_zero, List.set_cons_succ]
      refine wpAnyH_take (i := 4) (v := .slice (some ⟨b1, o1, none⟩) M.length M.length) rfl (by kernel_rfl) (by kernel_rfl) (by kernel_rfl) (fun _ _ _ h => h) (Or.inl ⟨by kernel_rfl, ?_⟩) HL_ ?_
      · rintro Wl ⟨s0, s1, s2, s3⟩
        go_simp
      simp only [Act.put, List.getElem_toArray, List.getElem_cons_succ, List.getElem_cons_zero, List.setIfInBounds_toArray, List.set_cons_zero, List.set_cons_succ]
      refine wpAnyH_take (i := 5) (v := .int .i64 k) rfl (by kernel_rfl) (by kernel_rfl) (by kernel_rfl) (fun _ _ _ h => h) (Or.inl ⟨by kernel_rfl, ?_⟩) HL_ ?_
      · rintro Wl ⟨s0, s1, s2, s3⟩
        go_simp
      simp only [Act.put, List.getElem_toArray, List.getElem_cons_succ, List.getElem_cons_zero, List.setIfInBounds_toArray, List.set_cons_zero, List.set_cons_succ]
      refine wpAnyH_take (i := 6) (v := .pointer (some ⟨b1, o1 + k * 2, none⟩)) rfl (by kernel_rfl) (by kernel_rfl) (by kernel_rfl) (fun _ _ _ h => h) (Or.inl ⟨by kernel_rfl, ?_⟩) HL_ ?_
      · rintro Wl ⟨s0, s1, s2, s3⟩
        go_simp
      simp only [Act.put, List.getElem_toArray, List.getElem_cons_succ, List.getElem_cons_zero, List.setIfInBounds_toArray, List.set_cons_zero, List.set_cons_succ]
      refine wpAnyH_take (i := 7) (v := .agg #[.int .i64 c, .int .i64 d]) rfl (by kernel_rfl) (by kernel_rfl) (by kernel_rfl) (fun _ _ _ h => h) (Or.inl ⟨by kernel_rfl, ?_⟩) HL_ ?_
      · rintro Wl ⟨s0, s1, s2, s3⟩
        go_simp
      simp only [Act.put, List.getElem_toArray, List.getElem_cons_succ, List.getElem_cons_zero, List.setIfInBounds_toArray, List.set_cons_zero, List.set_cons_succ]
      refine wpAnyH_ready (rs := [8]) (by kernel_rfl) (by simp) ?_
      refine AllReadyH.cons (o := _) rfl (fun K hK => ?_) AllReadyH.nil
      go_simp
      with_reducible refine (CC.out _).mono ?_
      rintro e_ ud1 ⟨rfl, hb⟩
      have hbX : Below wr.heap.size wr ud1 := undrew_b hb
      clear hb
      refine hK.out _ _ (kp hbX) fun HL_ => ?_
      clear hK K
      refine wpAnyH_take (i := 9) (v := .tuple #[.int .i64 s, .int .i64 0]) rfl (by kernel_rfl) (by kernel_rfl) (by kernel_rfl) (fun _ _ _ h => h) (Or.inl ⟨by kernel_rfl, ?_⟩) HL_ ?_
      · rintro Wl ⟨s0, s1, s2, s3⟩
        go_simp
      simp only [Act.put, List.getElem_toArray, List.getElem_cons_succ, List.getElem_cons_zero, List.setIfInBounds_toArray, List.set_cons_zero, List.set_cons_succ]
      refine wpAnyH_take (i := 10) (v := .int .i64 s) rfl (by kernel_rfl) (by kernel_rfl) (by kernel_rfl) (fun _ _ _ h => h) (Or.inl ⟨by kernel_rfl, ?_⟩) HL_ ?_
      · rintro Wl ⟨s0, s1, s2, s3⟩
        go_simp
      simp only [Act.put, List.getElem_toArray, List.getElem_cons_succ, List.getElem_cons_zero, List.setIfInBounds_toArray, List.set_cons_zero, List.set_cons_succ]
      refine wpAnyH_take (i := 11) (v := .int .i64 0) rfl (by kernel_rfl) (by kernel_rfl) (by kernel_rfl) (fun _ _ _ h => h) (Or.inl ⟨by kernel_rfl, ?_⟩) HL_ ?_
      · rintro Wl ⟨s0, s1, s2, s3⟩
        go_simp
      simp only [Act.put, List.getElem_toArray, List.getElem_cons_succ, List.getElem_cons_zero, List.setIfInBounds_toArray, List.set_cons_zero, List.set_cons_succ]
      refine wpAnyH_take (i := 12) (v := .int .i64 s) rfl (by kernel_rfl) (by kernel_rfl) (by kernel_rfl) (fun _ _ _ h => h) (Or.inl ⟨by kernel_rfl, ?_⟩) HL_ ?_
      · rintro Wl ⟨s0, s1, s2, s3⟩
        go_simp
      simp only [Act.put, List.getElem_toArray, List.getElem_cons_succ, List.getElem_cons_zero, List.setIfInBounds_toArray, List.set_cons_zero, List.set_cons_succ]
      refine wpAnyH_take (i := 13) (v := .int .i64 0) rfl (by kernel_rfl) (by kernel_rfl) (by kernel_rfl) (fun _ _ _ h => h) (Or.inl ⟨by kernel_rfl, ?_⟩) HL_ ?_
      · rintro Wl ⟨s0, s1, s2, s3⟩
        go_simp
      simp only [Act.put, List.getElem_toArray, List.getElem_cons_succ, List.getElem_cons_zero, List.setIfInBounds_toArray, List.set_cons_zero, List.set_cons_succ]
      refine wpAnyH_done (by kernel_rfl) ?_ _
      clear HL_ kp
      replace HW := Lib.hid (on_below HW.out hbX)
      clear hbX CC f0 f1 f2 f3
      go_wp2_with fail
      go_roundw
      case rel => exact ⟨k + 1, hlt, int_of (by first | rfl | exact w1_ | exact w2_), HW.out⟩
      case measure => simp [intOf, w1_, w2_]; clear w1_ w2_; omega
    · have hke : k = M.length := Nat.le_antisymm hk (Nat.le_of_not_lt hlt)
      subst hke
      go_wp2_with fail
      go_ret
      exact ⟨rfl, on_below HB.out hW⟩
theorem law_any (SA : Option Addr) (SC : Nat) (S : List Bv) (NA : Option Addr) (NC : Nat) (N : List Sv) (ex ey ez : Int) (OA : Option Addr) (OC : Nat) (O : List Bv) (at_ : Int) (ha : 0 ≤ at_ ∧ at_ ≤ 255) (w : World) (lS : LC w SA SC S) (lN : LV w NA NC N) (lO : LC w OA OC O) :
    Calls Try.prog 4 #[.agg #[.slice SA S.length SC, .slice NA N.length NC], .agg #[.int .i64 ex, .int .i64 ey, .int .i64 ez], .slice OA O.length OC, .int .u8 at_] w fun e_ w' => e_ = .returned (.bool true) ∧ Below w.heap.size w w' := by
  obtain ⟨E, hE⟩ := sce_ex (S.take 6) (fewl N) ex ey ez (cutl O)
  by_cases h0 : E = 0
  · subst h0
    obtain ⟨h1, h2⟩ := sce_zero hE
    by_cases hq : (cutl O).length = 0
    · exact bod_1 SA SC S NA NC N ex ey ez OA OC O at_ ha _ _ _ ⟨rfl, rfl, rfl⟩ h1 h2 hq w lS lN lO
    · have hp : 0 < (cutl O).length := Nat.pos_of_ne_zero hq
      have e1 : Int.tmod at_ ((cutl O).length : Int) = at_ % ((cutl O).length : Int) := Int.tmod_eq_emod_of_nonneg ha.1
      have e2 := Int.emod_nonneg at_ (show ((cutl O).length : Int) ≠ 0 by omega)
      have e3 := Int.emod_lt_of_pos at_ (show 0 < ((cutl O).length : Int) by omega)
      exact bod_2 SA SC S NA NC N ex ey ez OA OC O at_ ha _ _ _ ⟨rfl, rfl, rfl⟩ h1 h2 hp (at_ % ((cutl O).length : Int)).toNat (by rw [e1]; omega) (by omega) w lS lN lO
  · exact bod_0 SA SC S NA NC N ex ey ez OA OC O at_ ha _ _ _ ⟨rfl, rfl, rfl⟩ E hE h0 w lS lN lO
/-! ### The row -/
open Go.ChangeShapes Go.WideShapes Go.ChangeAt Go.Joins
theorem u8_in {x : Int} (h : (Lit.int .u8 x).wf = true) : 0 ≤ x ∧ x ≤ 255 := by
  have e1 : IntKind.u8.min = 0 := rfl
  have e2 : IntKind.u8.max = 255 := rfl
  simp [Lit.wf, e1, e2] at h
  exact h
theorem own : ownKnob Try.prog.godebug = none := by kernel_rfl
noncomputable def laidWorld (os : Os) : World := World.holding Try.prog os ⟨#[], #[], []⟩
theorem laidWorld_met (os : Os) (args : Array Value) : laidMet Try.prog [] ((laidWorld os).forCall (fun _ _ => 0) ⟨#[], args, []⟩).memory :=
  laidMet_of_run' 8 (by kernel_rfl) (by kernel_rfl)

set_option maxRecDepth 100000 in
theorem contract (H : Type) (enc : TypeId × Value → H) (W : World) (base : Nat) (args : Array Value) (ds gs : List (DataW H)) (before : List MemPlace)
    (hval : ∀ (j : Nat) t v, Try.f4.params[j]? = some t → args[j]? = some v → Value.okWide Try.prog W .any base t v)
    (hW : DataW.Whole enc Try.prog Try.f4.params.toList Rows.sceneBodiesSpec.vars false W args.toList ds gs before) :
    Calls Try.prog 4 args W fun e W' => ∃ v, e = .returned v ∧ Rows.sceneBodiesSpec.post enc Try.prog Try.f4 false true false false W args v W' := by
  have hW' := hW
  have hold : ∀ q ∈ before, decide (q.block < W.heap.size) = true := fun q hq => by simpa using hW.lt q hq
  obtain ⟨p, q, hA0, hV, rfl, hfz, hnd⟩ := hW
  have hA : DataW.TrodAll enc Try.prog W 0 (fun _ => true) true Try.f4.params.toList args.toList ds p := hA0
  rw [Try.params4] at hA hval
  obtain ⟨v0, vs0, d0, ds0, p0, q0, hargs, rfl, rfl, h0, r0⟩ := trodAll_cons hA
  obtain ⟨v1, vs1, d1, ds1, p1, q1, rfl, rfl, rfl, h1, r1⟩ := trodAll_cons r0
  obtain ⟨v2, vs2, d2, ds2, p2, q2, rfl, rfl, rfl, h2, r2⟩ := trodAll_cons r1
  obtain ⟨v3, vs3, d3, ds3, p3, q3, rfl, rfl, rfl, h3, r3⟩ := trodAll_cons r2
  obtain ⟨rfl, rfl, rfl⟩ := trodAll_nil r3
  obtain rfl : args = #[v0, v1, v2, v3] := Array.toList_inj.1 hargs
  obtain ⟨rfl, rfl⟩ := trodVars_none hV
  obtain ⟨SA, SC, S, NA, NC, N, rfl, lS, lN, shutP⟩ := open_play (hval 0 25 v0 rfl rfl) h0
  obtain ⟨ex, ey, ez, rfl, rfl, rfl, iex, iey, iez⟩ := open_vec (hval 1 27 v1 rfl rfl) h1
  obtain ⟨OA, OC, O, rfl, lO, shutO⟩ := open_bods (hval 2 22 v2 rfl rfl) h2
  obtain ⟨k, rfl, rfl, rfl, wuk⟩ := open_int Try.underlying5 (hval 3 5 v3 rfl rfl) h3
  clear hA0
  refine (law_any SA SC S NA NC N ex ey ez OA OC O k (u8_in wuk) W lS lN lO).mono fun e W' ⟨he, bel⟩ => ?_
  subst he
  exact ⟨_, rfl, _, _, _, [], _, [], hW', trodAll_mk1 (shut_bool Try.underlying4 _), (trodAll_cons_mk (shutP W' (fun b => decide (b < W.heap.size)) bel (fun q hq => hold q (by simp [hq]))) (trodAll_cons_mk (shut_vec iex iey iez) (trodAll_cons_mk (shutO W' (fun b => decide (b < W.heap.size)) bel (fun q hq => hold q (by simp [hq]))) (trodAll_cons_mk (shut_int Try.underlying5 wuk) trodAll_mk0)))), rfl, bel.frame _, fun h => by cases h⟩

theorem reads (os : Os) {H : Type} (enc : TypeId × Value → H) : ∃ places, DataW.whole enc Try.prog ((laidWorld os).forCall (fun _ _ => 0) ⟨#[], #[.agg #[.slice none 0 0, .slice none 0 0], .agg #[.int .i64 0, .int .i64 0, .int .i64 0], .slice none 0 0, .int .u8 0], []⟩).memory Try.f4.params.toList Rows.sceneBodiesSpec.vars false (#[.agg #[.slice none 0 0, .slice none 0 0], .agg #[.int .i64 0, .int .i64 0, .int .i64 0], .slice none 0 0, .int .u8 0] : Array Value).toList 8 = some ([.agg [.nil, .nil], .agg [.lit (.int .i64 0), .lit (.int .i64 0), .lit (.int .i64 0)], .nil, .lit (.int .u8 0)], [], places) :=
  ⟨[], by kernel_rfl⟩

set_option maxRecDepth 100000 in
theorem lifted (os : Os) (started : os.Started) (H : Type) (enc : TypeId × Value → H) (F : Stop.Interp) :
    ReturnsInHanded {} Try.checked os 4 .any ((OpenSpec.ofChange Rows.sceneBodiesSpec).preRow enc Try.prog Try.f4 Rows.sceneBodiesRow.domain false Rows.sceneBodiesRow.laid) (((OpenSpec.ofChange Rows.sceneBodiesSpec).at F).post enc Try.prog Try.f4 false true false false) := by
  obtain ⟨places, hx⟩ := reads os enc
  refine returnsInHanded_of_row (C := Try.checked) (s := OpenSpec.ofChange Rows.sceneBodiesSpec) own started (by kernel_rfl) Try.func4
    (witness_row_atRef (enc := enc) (C := Try.checked) false (laidWorld os) #[.agg #[.slice none 0 0, .slice none 0 0], .agg #[.int .i64 0, .int .i64 0, .int .i64 0], .slice none 0 0, .int .u8 0] rfl (by kernel_rfl) (by kernel_rfl) (by kernel_rfl)
      (OpenSpec.preRow_of_cond 8 hx (by kernel_rfl) (fun k hk => by cases hk) (by kernel_rfl) (laidWorld_met os _))) ?_
  intro W base args ds gs before hval hW _ hcond _ hL hsh _
  exact contract H enc W base args ds gs before hval hW

/-- The statement. -/
theorem said : Rows.SceneBodiesSaid :=
  OpenClaim.holds_of_cond 4 Try.f4 rfl rfl rfl rfl rfl rfl rfl ⟨rfl, rfl, rfl, rfl, rfl⟩ rfl rfl rfl rfl rfl (by kernel_rfl) Try.func4 (by kernel_rfl)
    (of_decide_eq_true (by kernel_rfl)) (by unfold Func.isWrapper; first | (rw [if_pos (by decide +kernel)]; kernel_rfl) | (rw [if_neg (by decide +kernel)]; exact ⟨rfl, rfl⟩))
    (fun os started H enc _ F => by rw [OpenClaim.pre_eq_preRow]; exact lifted os started H enc F)
end Go.Proofs.Ytgjcmolocoijiaa.LawBodies
