/-
  Package scene: the iterator of the shares. Package scene: Shares.
-/
import Derived.Test.YtiffgcipdamngaaZScnZB
import Derived.Test.YtiffgcipdamngaaZSgtZB
import Derived.Test.YtiffgcipdamngaaZSgtZC
import Derived.Test.YtiffgcipdamngaaZShpPS
import Derived.Test.YtiffgcipdamngaaZShpPC
import Derived.Test.YtiffgcipdamngaaZGenQ
import Derived.Laws.MakeOwn
namespace Go.Proofs.Ytiffgcipdamngaa
open Go.RowKit Go.Sort Go.Shelf
open Go.RowKit (Below)
set_option linter.unusedVariables false
set_option linter.unusedSimpArgs false

attribute [local go_sem] Oper.semAt_some
/-- What a round leaves alone: what lay below b, and the cells that hold neither parts of a number nor an int. -/
structure Kw (b : Nat) (W W' : World) : Prop where
  bel : Below b W W'
  size : W.heap.size ≤ W'.heap.size
  same : ∀ (g : Nat) (cs : Array Value) (t : TypeId) (fz : Nat × Nat), t ≠ 32 → t ≠ 3 → W.heap[g]? = some (Obj.cells cs t fz) → W'.heap[g]? = some (Obj.cells cs t fz)
section
variable {b : Nat} {A B C W W' : World}
theorem Kw.refl (W : World) : Kw b W W := ⟨Below.refl _ _, Nat.le_refl _, fun _ _ _ _ _ _ h => h⟩
theorem Kw.trans (h : Kw b A B) (k : Kw b B C) : Kw b A C := ⟨h.bel.trans k.bel, Nat.le_trans h.size k.size, fun g cs t fz ht hu hg => k.same g cs t fz ht hu (h.same g cs t fz ht hu hg)⟩
theorem Kw.put {l : Nat} {o : Obj} (o' : Obj) (hb : b ≤ l) (hl : W.heap[l]? = some o) (ho : o.isCells = false) : Kw b W (W.putObj l o') := by
  have h := Kz.put (T := 32) (W := W) o' hb hl ho
  exact ⟨h.bel, h.size, fun g cs t fz ht _ hg => h.same g cs t fz ht hg⟩
theorem Kw.of (h : Below W.heap.size W W') (hb : b ≤ W.heap.size) : Kw b W W' := ⟨h.mono hb, h.size, fun g cs t fz _ _ hg => by rw [h.block g (Array.getElem?_eq_some_iff.1 hg).1]; exact hg⟩
theorem Kw.set {g : Nat} {cs : Array Value} {t : TypeId} {fz : Nat × Nat} (i : Nat) (v : Value) (hb : b ≤ g) (ht : t = 32 ∨ t = 3) (hg : W.heap[g]? = some (Obj.cells cs t fz)) : Kw b W (W.setCell ⟨g, i, none⟩ v) :=
  ⟨(Below.refl b W).setCell hb _, by simp, fun j cs' t' fz' h1 h2 hj => by
    rw [Below.heap_setCell W ⟨g, i, none⟩ v j (by rintro rfl; rw [hg] at hj; injection hj with hj; injection hj with _ e _; rcases ht with h | h <;> rw [h] at e <;> first | exact h1 e.symm | exact h2 e.symm)]; exact hj⟩
end
/-- The k-th round is given the k-th scene's share. -/
def ShA (ex ey ez : Int) (S : List Bv) (N : List Sv) (O : List Bv) (k : Nat) (args : Array Value) (W : World) : Prop :=
  k < N.length ∧ args = #[.int .i64 k, .agg #[.int .i64 (qN (shn ex ey ez S O (gdV N k)) 100), .int .i64 (qD (shn ex ey ez S O (gdV N k)) 100)]]
section
variable {S : List Bv} {N : List Sv} {ex ey ez : Int} {O : List Bv} {k : Nat}
theorem bds_apz {L M : List Bv} (h : Bds L) (k : Bds M) : Bds (L ++ M) := fun i hi => by
  by_cases hl : i < L.length
  · rw [gdB_app_l hl]; exact h i hl
  · rw [List.length_append] at hi
    rw [gdB_app_r hl]; exact k _ (by omega)
theorem shr_wrg (h : Ok3 S N ex ey ez O) (hl : Lim S.length O.length N) (hk : k < N.length) : Wrg ex ey ez (gdV N k).ts (alb S (gdV N k) O) 0 := by
  obtain ⟨_, _, ht, hb⟩ := h.1.2.2.2.2 k hk
  exact Or.inr (Or.inr ⟨ht.1, by rw [alb_len]; exact hl k hk, twt_tok ht, ⟨h.2.1, h.2.2.2 k hk⟩, bds_apz (bds_apz h.1.2.2.2.1 hb) h.2.2.1, rfl⟩)
theorem shr_shr (h : Ok3 S N ex ey ez O) (hk : k < N.length) : ShR (gdV N k).ts (lns ex ey ez (gdV N k).ts (alb S (gdV N k) O)) (qN (shn ex ey ez S O (gdV N k)) 100) (qD (shn ex ey ez S O (gdV N k)) 100) 0 := by
  obtain ⟨_, _, ht, hb⟩ := h.1.2.2.2.2 k hk
  obtain ⟨s1, s2⟩ := shn_bd ex ey ez S O ht
  have hq := mkq (n := shn ex ey ez S O (gdV N k)) (d := 100) (by omega) ⟨by omega, by omega⟩ (by omega)
  refine Or.inr (Or.inr ⟨ht.1, twt_tok ht, lns_num _ _ _ _ _, rfl, ?_, ?_⟩)
  · rw [ht.2.2]; exact hq.2.1
  · rw [ht.2.2]; exact hq.2.2
end
set_option maxRecDepth 100000 in
set_option maxHeartbeats 4000000 in
theorem shares_seq (n : Nat) (hn : 1 ≤ n) (gp ge go : Nat) (SA : Option Addr) (SC : Nat) (S : List Bv) (NA : Option Addr) (NC : Nat) (N : List Sv) (ex ey ez : Int) (OA : Option Addr) (OC : Nat) (O : List Bv) (hok : Ok3 S N ex ey ez O) (hlm : Lim S.length O.length N) (w0 w : World) (hx : SvS w0 NA N) (hs : BdS w0 SA S) (ho : BdS w0 OA O) (h0 : Below w0.heap.size w0 w)
    (kp : w.heap[gp]? = some (.cells #[.slice SA S.length SC, .slice NA N.length NC] 25 (0, 0))) (ke : w.heap[ge]? = some (.cells #[.int .i64 ex, .int .i64 ey, .int .i64 ez] 27 (0, 0))) (ko : w.heap[go]? = some (.cells #[.slice OA O.length OC] 22 (0, 0))) :
    SeqN n Try.prog 28 #[.pointer (some ⟨gp, 0, none⟩), .pointer (some ⟨ge, 0, none⟩), .pointer (some ⟨go, 0, none⟩)] N.length (ShA ex ey ez S N O) (Kw w0.heap.size) w := by
  intro l J Jx W hW hJ hJx hY hJ0
  have HKP := Lib.hid (show W.heap[gp]? = some (.cells #[.slice SA S.length SC, .slice NA N.length NC] 25 (0, 0)) by rw [hW.block gp (Array.getElem?_eq_some_iff.1 kp).1]; exact kp)
  have HKE := Lib.hid (show W.heap[ge]? = some (.cells #[.int .i64 ex, .int .i64 ey, .int .i64 ez] 27 (0, 0)) by rw [hW.block ge (Array.getElem?_eq_some_iff.1 ke).1]; exact ke)
  have HKO := Lib.hid (show W.heap[go]? = some (.cells #[.slice OA O.length OC] 22 (0, 0)) by rw [hW.block go (Array.getElem?_eq_some_iff.1 ko).1]; exact ko)
  have HB0 := Lib.hid (show Below w0.heap.size w0 W from h0.trans (hW.mono h0.size))
  have HX := Lib.hid hx
  have HS := Lib.hid hs
  have HO := Lib.hid ho
  have HJ := Lib.hid hJ
  have HY := Lib.hid hY
  have H0 := Lib.hid hJ0
  have HOK := Lib.hid hok
  have HLM := Lib.hid hlm
  have hn20 : N.length ≤ 20 := hok.1.2.1
  have c1 := (two_cells HKP.out).2.1
  clear hW hJ hJx hY hJ0 h0 hx hs ho kp ke ko hok hlm
  refine callsIn_of_wp Try.func28 rfl trivial ?_ rfl
  simp only [Try.ntmps28, List.size_toArray, List.length_cons, List.length_nil, Nat.reduceAdd, Nat.reduceSub, Array.replicate_succ, Array.replicate_zero, List.push_toArray, List.append_toArray, List.nil_append, List.cons_append]
  have hmx : Try.prog.follows .mixedOrders = true := by kernel_rfl
  gi_wp2_with fail
  gi_loopw [14] (fun i wr => ∃ k : Nat, k ≤ N.length ∧ i = .int .i64 k ∧ Hid (J k wr ∧ Kw w0.heap.size W wr)) (fun i _ => N.length - (intOf i).toNat)
  case atStart => exact ⟨0, Nat.zero_le _, rfl, H0.out, Kw.refl _⟩
  case round =>
    obtain ⟨k, hk, rfl, HI⟩ := hrel
    have HB1 := Lib.hid (HB0.out.trans HI.out.2.bel)
    clear c1
    by_cases hlt : k < N.length
    · replace HS := Lib.hid (HS.out.below HB1.out)
      replace HO := Lib.hid (HO.out.below HB1.out)
      obtain ⟨b0, o0, rfl, e0, e1, e2, hbs, hts⟩ := HX.out.below HB1.out k hlt
      have HBS := Lib.hid hbs
      have HTS := Lib.hid hts
      clear hbs hts
      have hlb : w0.heap.size ≤ wr.heap.size := HB1.out.size
      replace HKP := Lib.hid (HI.out.2.same gp _ _ _ (by decide) (by decide) HKP.out)
      replace HKE := Lib.hid (HI.out.2.same ge _ _ _ (by decide) (by decide) HKE.out)
      replace HKO := Lib.hid (HI.out.2.same go _ _ _ (by decide) (by decide) HKO.out)
      obtain ⟨p0, p1, _, _⟩ := two_cells HKP.out
      obtain ⟨v0, v1, v2⟩ := cells3 HKE.out
      have x0 : wr.cell? ⟨go, 0, none⟩ = some (.slice OA O.length OC) := by simp [World.cell?, HKO.out]
      have HW0 := Lib.hid (shr_wrg HOK.out HLM.out hlt)
      have HR0 := Lib.hid (shr_shr HOK.out hlt)
      have hlen : S.length + (gdV N k).bs.length + O.length ≤ 60 := HLM.out k hlt
      have htl : (gdV N k).ts.length ≤ 60 := (HOK.out.1.2.2.2.2 k hlt).2.2.1.1
      have HAR := Lib.hid (show ShA ex ey ez S N O k #[.int .i64 k, .agg #[.int .i64 (qN (shn ex ey ez S O (gdV N k)) 100), .int .i64 (qD (shn ex ey ez S O (gdV N k)) 100)]] wr → ∀ V : World, ShA ex ey ez S N O k #[.int .i64 k, .agg #[.int .i64 (qN (shn ex ey ez S O (gdV N k)) 100), .int .i64 (qD (shn ex ey ez S O (gdV N k)) 100)]] V from fun h V => h)
      replace HAR := Lib.hid (HAR.out ⟨hlt, rfl⟩)
      obtain ⟨q1, hq1⟩ : ∃ q, qN (shn ex ey ez S O (gdV N k)) 100 = q := ⟨_, rfl⟩
      obtain ⟨q2, hq2⟩ : ∃ q, qD (shn ex ey ez S O (gdV N k)) 100 = q := ⟨_, rfl⟩
      rw [hq1, hq2] at HAR HR0
      clear hq1 hq2
      have CJ := Lib.hid (fun g W' (a : BdS W' SA S) (b : BdS W' (gdV N k).BA (gdV N k).bs) (c : BdS W' OA O) x y z => joined_is g SA SC S (gdV N k).BA (gdV N k).BC (gdV N k).bs OA OC O (by omega) (by omega) (by omega) W' a b c x y z (alb S (gdV N k) O) rfl)
      have hal := alb_len S (gdV N k) O
      generalize alb S (gdV N k) O = al at *
      generalize hgd : gdV N k = u at *
      clear hgd
      obtain ⟨um, uBA, uBC, ub, uTA, uTC, ut⟩ := u
      dsimp only at e0 e1 e2 HBS HTS HW0 HR0 hlen htl CJ hal
      have CL := Lib.hid (fun A C W' (a : S4 W' uTA ut) (b : BdS W' A al) => lines_1 ex ey ez uTA uTC ut A C al (by omega) (by omega) HW0.out W' a b)
      have CS := Lib.hid (fun g W' (a : S4 W' uTA ut) (b : S4 W' (some ⟨g, 0, none⟩) (lns ex ey ez ut al)) => share_is uTA uTC ut (some ⟨g, 0, none⟩) ut.length (lns ex ey ez ut al) (by omega) (by rw [lns_len]; omega) q1 q2 0 HR0.out W' a b)
      simp only [lns_len] at CS
      clear HW0 HR0 hal
      have w1_ : IntKind.i64.wrap ((k : Int) + 1) = (k : Int) + 1 := IntWalk.i64_in _ ⟨by omega, by omega⟩
      have w2_ : wrap64 ((k : Int) + 1) = (k : Int) + 1 := IntWalk.wrap64_in _ ⟨by omega, by omega⟩
      have hb := below_new wr (.cells #[.int .i64 um, .slice uBA ub.length uBC, .slice uTA ut.length uTC] 38)
      have kz : (wr.alloc (.cells #[.int .i64 um, .slice uBA ub.length uBC, .slice uTA ut.length uTC] 38)).heap[wr.heap.size]? = some (.cells #[.int .i64 um, .slice uBA ub.length uBC, .slice uTA ut.length uTC] 38 (0, 0)) := World.alloc_heap_new _ _
      gi_wp2_with fail
      generalize wr.alloc (.cells #[.int .i64 um, .slice uBA ub.length uBC, .slice uTA ut.length uTC] 38) = w1 at *
      clear e0 e1 e2 p1
      replace HBS := Lib.hid (HBS.out.below hb)
      replace HTS := Lib.hid (HTS.out.below hb)
      replace HS := Lib.hid (HS.out.below hb)
      replace HO := Lib.hid (HO.out.below hb)
      replace p0 := keepc hb p0
      replace v0 := keepc hb v0
      replace v1 := keepc hb v1
      replace v2 := keepc hb v2
      replace x0 := keepc hb x0
      obtain ⟨z0, z1, z2⟩ := cells3 kz
      have HBW := Lib.hid hb
      clear hb kz
      refine wpIn_wide.2 ?_
      have kp : ∀ {V : World}, Below w1.heap.size w1 V → V.cell? ⟨ge, 0, none⟩ = some (.int .i64 ex) ∧ V.cell? ⟨ge, 1, none⟩ = some (.int .i64 ey) ∧ V.cell? ⟨ge, 2, none⟩ = some (.int .i64 ez) ∧ V.cell? ⟨wr.heap.size, 1, none⟩ = some (.slice uBA ub.length uBC) ∧ V.cell? ⟨wr.heap.size, 2, none⟩ = some (.slice uTA ut.length uTC) ∧ V.cell? ⟨gp, 0, none⟩ = some (.slice SA S.length SC) ∧ V.cell? ⟨go, 0, none⟩ = some (.slice OA O.length OC) := fun h => ⟨keepc h v0, keepc h v1, keepc h v2, keepc h z1, keepc h z2, keepc h p0, keepc h x0⟩
      refine wp_region_held_drew (S := fun V => V.cell? ⟨ge, 0, none⟩ = some (.int .i64 ex) ∧ V.cell? ⟨ge, 1, none⟩ = some (.int .i64 ey) ∧ V.cell? ⟨ge, 2, none⟩ = some (.int .i64 ez) ∧ V.cell? ⟨wr.heap.size, 1, none⟩ = some (.slice uBA ub.length uBC) ∧ V.cell? ⟨wr.heap.size, 2, none⟩ = some (.slice uTA ut.length uTC) ∧ V.cell? ⟨gp, 0, none⟩ = some (.slice SA S.length SC) ∧ V.cell? ⟨go, 0, none⟩ = some (.slice OA O.length OC)) (by kernel_rfl) (kp (Below.refl _ _).drew) fun HL_ => ?_
      refine wpAnyH_take (i := 0) (v := .agg #[.int .i64 ex, .int .i64 ey, .int .i64 ez]) rfl (by kernel_rfl) (by kernel_rfl) (by kernel_rfl) (fun _ _ _ h => h) (Or.inl ⟨by kernel_rfl, ?_⟩) HL_ ?_
      · rintro Wl ⟨s0, s1, s2, s3, s4, s5, s6⟩
        go_simp
      simp only [Act.put, List.getElem_toArray, List.getElem_cons_succ, List.getElem_cons_zero, List.setIfInBounds_toArray, List.set_cons_zero, List.set_cons_succ]
      refine wpAnyH_take (i := 1) (v := .pointer (some ⟨wr.heap.size, 2, none⟩)) rfl (by kernel_rfl) (by kernel_rfl) (by kernel_rfl) (fun _ _ _ h => h) (Or.inl ⟨by kernel_rfl, ?_⟩) HL_ ?_
      · rintro Wl ⟨s0, s1, s2, s3, s4, s5, s6⟩
        go_simp
      simp only [Act.put, List.getElem_toArray, List.getElem_cons_succ, List.getElem_cons_zero, List.setIfInBounds_toArray, List.set_cons_zero, List.set_cons_succ]
      refine wpAnyH_take (i := 2) (v := .slice uTA ut.length uTC) rfl (by kernel_rfl) (by kernel_rfl) (by kernel_rfl) (fun _ _ _ h => h) (Or.inl ⟨by kernel_rfl, ?_⟩) HL_ ?_
      · rintro Wl ⟨s0, s1, s2, s3, s4, s5, s6⟩
        go_simp
      simp only [Act.put, List.getElem_toArray, List.getElem_cons_succ, List.getElem_cons_zero, List.setIfInBounds_toArray, List.set_cons_zero, List.set_cons_succ]
      refine wpAnyH_take (i := 3) (v := .pointer (some ⟨gp, 0, none⟩)) rfl (by kernel_rfl) (by kernel_rfl) (by kernel_rfl) (fun _ _ _ h => h) (Or.inl ⟨by kernel_rfl, ?_⟩) HL_ ?_
      · rintro Wl ⟨s0, s1, s2, s3, s4, s5, s6⟩
        go_simp
      simp only [Act.put, List.getElem_toArray, List.getElem_cons_succ, List.getElem_cons_zero, List.setIfInBounds_toArray, List.set_cons_zero, List.set_cons_succ]
      refine wpAnyH_take (i := 4) (v := .slice SA S.length SC) rfl (by kernel_rfl) (by kernel_rfl) (by kernel_rfl) (fun _ _ _ h => h) (Or.inl ⟨by kernel_rfl, ?_⟩) HL_ ?_
      · rintro Wl ⟨s0, s1, s2, s3, s4, s5, s6⟩
        go_simp
      simp only [Act.put, List.getElem_toArray, List.getElem_cons_succ, List.getElem_cons_zero, List.setIfInBounds_toArray, List.set_cons_zero, List.set_cons_succ]
      refine wpAnyH_take (i := 5) (v := .pointer (some ⟨wr.heap.size, 1, none⟩)) rfl (by kernel_rfl) (by kernel_rfl) (by kernel_rfl) (fun _ _ _ h => h) (Or.inl ⟨by kernel_rfl, ?_⟩) HL_ ?_
      · rintro Wl ⟨s0, s1, s2, s3, s4, s5, s6⟩
        go_simp
      simp only [Act.put, List.getElem_toArray, List.getElem_cons_succ, List.getElem_cons_zero, List.setIfInBounds_toArray, List.set_cons_zero, List.set_cons_succ]
      refine wpAnyH_take (i := 6) (v := .slice uBA ub.length uBC) rfl (by kernel_rfl) (by kernel_rfl) (by kernel_rfl) (fun _ _ _ h => h) (Or.inl ⟨by kernel_rfl, ?_⟩) HL_ ?_
      · rintro Wl ⟨s0, s1, s2, s3, s4, s5, s6⟩
        go_simp
      simp only [Act.put, List.getElem_toArray, List.getElem_cons_succ, List.getElem_cons_zero, List.setIfInBounds_toArray, List.set_cons_zero, List.set_cons_succ]
      refine wpAnyH_take (i := 7) (v := .slice OA O.length OC) rfl (by kernel_rfl) (by kernel_rfl) (by kernel_rfl) (fun _ _ _ h => h) (Or.inl ⟨by kernel_rfl, ?_⟩) HL_ ?_
      · rintro Wl ⟨s0, s1, s2, s3, s4, s5, s6⟩
        go_simp
      simp only [Act.put, List.getElem_toArray, List.getElem_cons_succ, List.getElem_cons_zero, List.setIfInBounds_toArray, List.set_cons_zero, List.set_cons_succ]
      refine wpAnyH_ready (rs := [8]) (by kernel_rfl) (by simp) ?_
      refine AllReadyH.cons (o := _) rfl (fun K hK => ?_) AllReadyH.nil
      go_simp
      have hb2 : Below w1.heap.size w1 (w1.alloc (.cells #[.slice SA S.length SC, .slice uBA ub.length uBC, .slice OA O.length OC] 22)).drew := (below_new w1 (.cells #[.slice SA S.length SC, .slice uBA ub.length uBC, .slice OA O.length OC] 22)).drew
      have kr : (w1.alloc (.cells #[.slice SA S.length SC, .slice uBA ub.length uBC, .slice OA O.length OC] 22)).drew.heap[w1.heap.size]? = some (.cells #[.slice SA S.length SC, .slice uBA ub.length uBC, .slice OA O.length OC] 22 (0, 0)) := World.alloc_heap_new _ _
      refine hK.out _ _ (kp hb2) fun HL_ => ?_
      clear hK K
      generalize (w1.alloc (.cells #[.slice SA S.length SC, .slice uBA ub.length uBC, .slice OA O.length OC] 22)).drew = w2 at *
      obtain ⟨gr, hgr⟩ : ∃ g, w1.heap.size = g := ⟨_, rfl⟩
      rw [hgr] at kr
      obtain ⟨y0, y1, y2⟩ := cells3 kr
      refine wpAnyH_ready (rs := [9]) (by kernel_rfl) (by simp) ?_
      refine AllReadyH.cons (o := _) rfl (fun K hK => ?_) AllReadyH.nil
      go_simp
      with_reducible refine (CJ.out _ _ (HS.out.below hb2) (HBS.out.below hb2) (HO.out.below hb2) y0 y1 y2).mono ?_
      rintro e_ w3 ⟨A, ⟨C, rfl⟩, hal, hb3⟩
      replace hb3 := on_below hb2 hb3
      clear hb2 kr y0 y1 y2
      refine hK.out _ _ (kp hb3) fun HL_ => ?_
      clear hK K
      refine wpAnyH_ready (rs := [10]) (by kernel_rfl) (by simp) ?_
      refine AllReadyH.cons (o := _) rfl (fun K hK => ?_) AllReadyH.nil
      go_simp
      with_reducible refine (CL.out A C _ (HTS.out.below hb3) hal).mono ?_
      rintro e_ w4 ⟨gl, rfl, hln, hb4⟩
      replace hb4 := on_below hb3 hb4
      clear hb3 hal
      refine hK.out _ _ (kp hb4) fun HL_ => ?_
      clear hK K
      refine wpAnyH_take (i := 11) (v := .tuple #[.slice (some ⟨gl, 0, none⟩) ut.length ut.length, .int .i64 0]) rfl (by kernel_rfl) (by kernel_rfl) (by kernel_rfl) (fun _ _ _ h => h) (Or.inl ⟨by kernel_rfl, ?_⟩) HL_ ?_
      · rintro Wl ⟨s0, s1, s2, s3, s4, s5, s6⟩
        go_simp
      simp only [Act.put, List.getElem_toArray, List.getElem_cons_succ, List.getElem_cons_zero, List.setIfInBounds_toArray, List.set_cons_zero, List.set_cons_succ]
      refine wpAnyH_take (i := 12) (v := .slice (some ⟨gl, 0, none⟩) ut.length ut.length) rfl (by kernel_rfl) (by kernel_rfl) (by kernel_rfl) (fun _ _ _ h => h) (Or.inl ⟨by kernel_rfl, ?_⟩) HL_ ?_
      · rintro Wl ⟨s0, s1, s2, s3, s4, s5, s6⟩
        go_simp
      simp only [Act.put, List.getElem_toArray, List.getElem_cons_succ, List.getElem_cons_zero, List.setIfInBounds_toArray, List.set_cons_zero, List.set_cons_succ]
      refine wpAnyH_take (i := 13) (v := .int .i64 0) rfl (by kernel_rfl) (by kernel_rfl) (by kernel_rfl) (fun _ _ _ h => h) (Or.inl ⟨by kernel_rfl, ?_⟩) HL_ ?_
      · rintro Wl ⟨s0, s1, s2, s3, s4, s5, s6⟩
        go_simp
      simp only [Act.put, List.getElem_toArray, List.getElem_cons_succ, List.getElem_cons_zero, List.setIfInBounds_toArray, List.set_cons_zero, List.set_cons_succ]
      refine wpAnyH_take (i := 14) (v := .slice (some ⟨gl, 0, none⟩) ut.length ut.length) rfl (by kernel_rfl) (by kernel_rfl) (by kernel_rfl) (fun _ _ _ h => h) (Or.inl ⟨by kernel_rfl, ?_⟩) HL_ ?_
      · rintro Wl ⟨s0, s1, s2, s3, s4, s5, s6⟩
        go_simp
      simp only [Act.put, List.getElem_toArray, List.getElem_cons_succ, List.getElem_cons_zero, List.setIfInBounds_toArray, List.set_cons_zero, List.set_cons_succ]
      refine wpAnyH_take (i := 15) (v := .int .i64 0) rfl (by kernel_rfl) (by kernel_rfl) (by kernel_rfl) (fun _ _ _ h => h) (Or.inl ⟨by kernel_rfl, ?_⟩) HL_ ?_
      · rintro Wl ⟨s0, s1, s2, s3, s4, s5, s6⟩
        go_simp
      simp only [Act.put, List.getElem_toArray, List.getElem_cons_succ, List.getElem_cons_zero, List.setIfInBounds_toArray, List.set_cons_zero, List.set_cons_succ]
      refine wpAnyH_done (by kernel_rfl) ?_ _
      clear HL_ kp v0 v1 v2 p0 x0 CJ CL HS HO HBS
      replace z2 := keepc hb4 z2
      replace HBW := Lib.hid (on_below HBW.out hb4)
      have HLN := Lib.hid hln
      replace HTS := Lib.hid (HTS.out.below hb4)
      clear hb4 hln z0 z1
      gi_wp2_with fail
      refine ⟨trivial, (callsIn_wide.2 (CS.out gl _ HTS.out HLN.out)).mono ?_⟩
      rintro e w5 ⟨rfl, hb⟩
      clear CS HTS HLN z2
      replace hb := on_below HBW.out hb
      clear HBW
      have hb6 := on_below hb (below_new w5 (.cells #[.int .i64 q1, .int .i64 q2] 32))
      have n0 : World.cell? (w5.alloc (.cells #[.int .i64 q1, .int .i64 q2] 32)) ⟨w5.heap.size, 0, none⟩ = some (.int .i64 q1) := by simp [go_sem]
      have n1 : World.cell? (w5.alloc (.cells #[.int .i64 q1, .int .i64 q2] 32)) ⟨w5.heap.size, 1, none⟩ = some (.int .i64 q2) := by simp [go_sem]
      have HJV := Lib.hid (HJ.out _ _ _ none HI.out.1 (grown_of hb6) (by rintro r e; cases e))
      have HKV := Lib.hid (HI.out.2.trans (Kw.of hb6 hlb))
      clear HI hb hb6
      obtain ⟨fn, tmps, assign, body, hy, hR⟩ := yc_of (HY.out k #[.int .i64 k, .agg #[.int .i64 q1, .int .i64 q2]] _ hlt HJV.out (HAR.out _))
      have HR := Lib.hid hR
      clear hR HJV HY HAR
      gi_wp2_with fail
      refine (round_room (m := n - 1) HR.out).mono ?_
      rintro e W3 ⟨b, rfl, hYB⟩
      clear hy HR n0 n1
      rcases hYB with ⟨rfl, h1, h2, h3⟩ | ⟨rfl, h1, h3⟩
      · have HG := Lib.hid (show J (k + 1) W3 ∧ Kw w0.heap.size W W3 from ⟨h1, HKV.out.trans h2⟩)
        clear h1 h2 h3 HKV
        gi_wp2
        go_roundw
        case rel => exact ⟨k + 1, hlt, by go_num, HG.out⟩
        case measure => simp [intOf, w1_, w2_]; clear w1_ w2_; omega
      · have HG := Lib.hid h1
        clear h1 h3 HKV
        gi_wp2
        refine bodyPost_ret (results_none rfl _ _ _) rfl ?_
        exact ⟨⟨_, rfl⟩, .inr ⟨k + 1, hlt, HG.out⟩⟩
    · have hk2 : k = N.length := by omega
      have HF := Lib.hid (show J N.length wr from hk2 ▸ HI.out.1)
      clear hk2
      gi_wp2
      go_end0
      exact ⟨⟨_, rfl⟩, .inl HF.out⟩
end Go.Proofs.Ytiffgcipdamngaa

namespace Go.Proofs.Ytiffgcipdamngaa
open Go.RowKit Go.Sort Go.Shelf
open Go.RowKit (Below)
set_option linter.unusedVariables false
set_option linter.unusedSimpArgs false

attribute [local go_sem] Oper.semAt_some


section
variable {g n k : Nat} {f : Nat → Int × Int} {W W' : World}








end

section
variable {gr gb n k : Nat} {f : Nat → Int × Int} {w0 W W' : World}




end
theorem own_no {B : Nat} : OwnFrom B (fun (_ : Nat) (_ : World) => False) := fun _ _ _ _ h _ _ => h
theorem blk_zero {W : World} {g : Nat} {v : Value} {t : TypeId} {fz : Nat × Nat} (h : W.heap[g]? = some (.cells #[v] t fz)) : W.cell? ⟨g, 0, none⟩ = some v := by simp [World.cell?, h]
set_option maxRecDepth 100000 in
set_option maxHeartbeats 2000000 in
theorem shares_0 (SA : Option Addr) (SC : Nat) (S : List Bv) (NA : Option Addr) (NC : Nat) (N : List Sv) (ex ey ez : Int) (OA : Option Addr) (OC : Nat) (O : List Bv) (hs : Sml S N) (ho0 : O.length ≤ 1000) (E : Int) (hE : ScE S N ex ey ez O E) (h0 : E ≠ 0) (w : World) (hn : SvS w NA N) (hm : BdS w SA S) (ho : BdS w OA O) :
    Calls Try.prog 10 #[.agg #[.slice SA S.length SC, .slice NA N.length NC], .agg #[.int .i64 ex, .int .i64 ey, .int .i64 ez], .slice OA O.length OC] w fun e_ w' => e_ = .returned (.tuple #[.slice none 0 0, .int .i64 E]) ∧ Below w.heap.size w w' := by
  have CE := Lib.hid (fun W (a : SvS W NA N) (b : BdS W SA S) (c : BdS W OA O) => err_is SA SC S NA NC N ex ey ez OA OC O hs ho0 E hE W a b c)
  have z0 : (E != 0) = true := by simp [h0]
  clear hs hE h0
  have HN := Lib.hid hn
  clear hn
  have HM := Lib.hid hm
  clear hm
  have HO := Lib.hid ho
  clear ho
  have p0 : World.cell? ((w.alloc (.cells #[.slice SA S.length SC, .slice NA N.length NC] 25)).alloc (.cells #[.int .i64 ex, .int .i64 ey, .int .i64 ez] 27)) ⟨w.heap.size, 0, none⟩ = some (.slice SA S.length SC) := by simp [go_sem]
  have p1 : World.cell? ((w.alloc (.cells #[.slice SA S.length SC, .slice NA N.length NC] 25)).alloc (.cells #[.int .i64 ex, .int .i64 ey, .int .i64 ez] 27)) ⟨w.heap.size, 1, none⟩ = some (.slice NA N.length NC) := by simp [go_sem]
  have lp : w.heap.size < ((w.alloc (.cells #[.slice SA S.length SC, .slice NA N.length NC] 25)).alloc (.cells #[.int .i64 ex, .int .i64 ey, .int .i64 ez] 27)).heap.size := by simp <;> omega
  have q0 : World.cell? ((w.alloc (.cells #[.slice SA S.length SC, .slice NA N.length NC] 25)).alloc (.cells #[.int .i64 ex, .int .i64 ey, .int .i64 ez] 27)) ⟨w.heap.size + 1, 0, none⟩ = some (.int .i64 ex) := by simp [go_sem]
  have q1 : World.cell? ((w.alloc (.cells #[.slice SA S.length SC, .slice NA N.length NC] 25)).alloc (.cells #[.int .i64 ex, .int .i64 ey, .int .i64 ez] 27)) ⟨w.heap.size + 1, 1, none⟩ = some (.int .i64 ey) := by simp [go_sem]
  have q2 : World.cell? ((w.alloc (.cells #[.slice SA S.length SC, .slice NA N.length NC] 25)).alloc (.cells #[.int .i64 ex, .int .i64 ey, .int .i64 ez] 27)) ⟨w.heap.size + 1, 2, none⟩ = some (.int .i64 ez) := by simp [go_sem]
  have lq : w.heap.size + 1 < ((w.alloc (.cells #[.slice SA S.length SC, .slice NA N.length NC] 25)).alloc (.cells #[.int .i64 ex, .int .i64 ey, .int .i64 ez] 27)).heap.size := by simp <;> omega
  have HB := Lib.hid (show Below w.heap.size w ((w.alloc (.cells #[.slice SA S.length SC, .slice NA N.length NC] 25)).alloc (.cells #[.int .i64 ex, .int .i64 ey, .int .i64 ez] 27)) from (((Below.refl _ _).alloc (by simp <;> omega) _).alloc (by simp <;> omega) _))
  go_enter Try.func10, Try.ntmps10
  go_upto_region 1 with fail
  generalize (w.alloc (.cells #[.slice SA S.length SC, .slice NA N.length NC] 25)).alloc (.cells #[.int .i64 ex, .int .i64 ey, .int .i64 ez] 27) = w1 at *
  replace HN := Lib.hid (HN.out.below HB.out)
  replace HM := Lib.hid (HM.out.below HB.out)
  replace HO := Lib.hid (HO.out.below HB.out)
  go_wp2_with fail
  with_reducible refine (CE.out _ HN.out HM.out HO.out).mono ?_
  rintro e_ w2 ⟨rfl, hb⟩
  replace HB := Lib.hid (on_below HB.out hb)
  replace HN := Lib.hid (HN.out.below hb)
  replace HM := Lib.hid (HM.out.below hb)
  replace HO := Lib.hid (HO.out.below hb)
  replace p0 := keepc hb p0
  replace p1 := keepc hb p1
  replace q0 := keepc hb q0
  replace q1 := keepc hb q1
  replace q2 := keepc hb q2
  replace lp := Nat.lt_of_lt_of_le lp hb.size
  replace lq := Nat.lt_of_lt_of_le lq hb.size
  clear hb
  go_wp2_with fail
  go_ret2
  exact ⟨rfl, HB.out⟩

end Go.Proofs.Ytiffgcipdamngaa
