/-
  A scene that is divided: Few, with what its slice can hold; pieces of slices of scenes; sums over lists.
-/
import Derived.Test.YtiffgcipdamngaaZScnW
namespace Go.Proofs.Ytiffgcipdamngaa
open Go.RowKit Go.Sort
open Go.RowKit (Below)
set_option linter.unusedVariables false
set_option linter.unusedSimpArgs false
attribute [local go_sem] Oper.semAt_some

theorem own_svs2 {w : World} {base n : Nat} {e : TypeId} {v : Value} {L : List Sv} (h : w.ownsRow base e 3 v n (flt svc L)) (hs : ∀ k, k < L.length → BdS w (gdV L k).BA (gdV L k).bs ∧ S4 w (gdV L k).TA (gdV L k).ts) : ∃ A C, v = .slice A L.length C ∧ L.length ≤ C ∧ C ≤ maxLen ∧ SvS w A L := by
  have hn : n = L.length := by have := h.1; rw [flt_len svc_len] at this; omega
  subst hn
  obtain ⟨A, C, hv, h1, h2, hc⟩ := own_form h
  refine ⟨A, C, hv, h1, h2, fun k hk => ?_⟩
  obtain ⟨e0, e1, e2⟩ := svc_at hk
  obtain ⟨g, rfl, _, c0⟩ := hc _ _ e0
  obtain ⟨g1, k1, _, c1⟩ := hc _ _ e1
  obtain ⟨g2, k2, _, c2⟩ := hc _ _ e2
  obtain rfl : g = g1 := by simpa using k1
  obtain rfl : g = g2 := by simpa using k2
  exact ⟨g, 0, rfl, by rw [Nat.zero_add]; exact c0, by rw [Nat.zero_add]; exact c1, by rw [Nat.zero_add]; exact c2, hs k hk⟩
set_option maxRecDepth 100000 in
set_option maxHeartbeats 4000000 in
theorem few11_cap (SA : Option Addr) (SC : Nat) (S : List Bv) (NA : Option Addr) (NC : Nat) (N : List Sv) (hcs : S.length ≤ SC ∧ SC ≤ 9223372036854775807) (hlen : N.length ≤ 9223372036854775807) (hc : ∀ k, k < N.length → ((gdV N k).bs.length ≤ (gdV N k).BC ∧ (gdV N k).BC ≤ 9223372036854775807) ∧ (gdV N k).ts.length ≤ (gdV N k).TC ∧ (gdV N k).TC ≤ 9223372036854775807) (M : List Sv) (hM : fewl N = M) (ns : Nat) (hns : (S.take 6).length = ns) (w : World) (hn : SvS w NA N) :
    Calls Try.prog 5 #[.agg #[.slice SA S.length SC, .slice NA N.length NC]] w fun e_ w' => ∃ B, (∃ D, (M.length ≤ D ∧ D ≤ 9223372036854775807) ∧ e_ = .returned (.agg #[.slice SA ns SC, .slice B M.length D])) ∧ SvS w' B M ∧ Below w.heap.size w w' := by
  have HL := Lib.hid hn
  clear hn
  have HC := Lib.hid hc
  clear hc
  obtain ⟨i1, hi1, hy0, hy1, hy2⟩ := info_of (show (Try.prog.info? 38).map (fun i => (i.zero, i.size, i.bytes)) = some (some (.agg #[.int .i64 0, .slice none 0 0, .slice none 0 0]), 3, 56) by kernel_rfl)
  have hm1 : min (S.length : Int) 6 = (ns : Int) := by rw [← hns, List.length_take]; omega
  have hm2 : (if (6 : Int) < (S.length : Int) then (6 : Int) else (S.length : Int)) = (ns : Int) := by rw [← hns, List.length_take]; split <;> omega
  have hn0 : (0 : Int) ≤ ns := by omega
  have hnn : (ns : Int) ≤ SC := by rw [← hns, List.length_take]; omega
  have hnn2 : ns ≤ SC := by omega
  have hmz := map_zero SA SC
  clear hns
  obtain ⟨hb3, hs3, kp, ko, ku⟩ := allocs3 w _ _ _ (rfl : ((w.alloc (.cells #[.slice SA S.length SC, .slice NA N.length NC] 25)).alloc (.cells #[.slice none 0 0, .slice none 0 0] 25)).alloc (.cells #[.slice SA ns SC, .slice none 0 0] 25) = _)
  have p0 : World.cell? ((w.alloc (.cells #[.slice SA S.length SC, .slice NA N.length NC] 25)).alloc (.cells #[.slice none 0 0, .slice none 0 0] 25)) ⟨w.heap.size, 0, none⟩ = some (.slice SA S.length SC) := by simp [go_sem]
  have HF := Lib.hid (show Fw w.heap.size (((w.alloc (.cells #[.slice SA S.length SC, .slice NA N.length NC] 25)).alloc (.cells #[.slice none 0 0, .slice none 0 0] 25)).alloc (.cells #[.slice SA ns SC, .slice none 0 0] 25)).heap.size (.slice SA S.length SC) (.slice NA N.length NC) (.slice SA ns SC) N w 0 (.slice none 0 0) (((w.alloc (.cells #[.slice SA S.length SC, .slice NA N.length NC] 25)).alloc (.cells #[.slice none 0 0, .slice none 0 0] 25)).alloc (.cells #[.slice SA ns SC, .slice none 0 0] 25)) from ⟨kp, ko, ku, World.ownsRow_nil _ _ _ _, hb3, by rw [hs3]; omega, Nat.le_refl _⟩)
  clear kp ko ku hb3 hs3
  go_enter Try.func5, Try.ntmps5
  go_wp2_with fail
  generalize ((w.alloc (.cells #[.slice SA S.length SC, .slice NA N.length NC] 25)).alloc (.cells #[.slice none 0 0, .slice none 0 0] 25)).alloc (.cells #[.slice SA ns SC, .slice none 0 0] 25) = w3 at *
  clear p0 hm1 hm2 hn0 hnn hnn2 hmz
  have HP := Lib.hid HF.out.bel
  go_loopw [4] (fun i wr => ∃ (k : Nat) (v : Value), (k ≤ N.length ∧ k ≤ 4) ∧ i = .int .i64 k ∧ Hid (Fw w.heap.size w3.heap.size (.slice SA S.length SC) (.slice NA N.length NC) (.slice SA ns SC) N w k v wr)) (fun i _ => 4 - (intOf i).toNat)
  case atStart => exact ⟨0, _, ⟨Nat.zero_le _, Nat.zero_le _⟩, rfl, HF.out⟩
  case round =>
    obtain ⟨k, v, ⟨hk, hk6⟩, rfl, HI⟩ := hrel
    clear HF HP
    have w1_ : IntKind.i64.wrap ((k : Int) + 1) = (k : Int) + 1 := IntWalk.i64_in _ ⟨by omega, by omega⟩
    have w2_ : wrap64 ((k : Int) + 1) = (k : Int) + 1 := IntWalk.wrap64_in _ ⟨by omega, by omega⟩
    obtain ⟨p0, p1, _, _⟩ := two_cells HI.out.p
    by_cases hlt : k < N.length ∧ k < 4
    · obtain ⟨hlt, hl6⟩ := hlt
      have e5 : ((k : Int) < (N.length : Int)) := by omega
      have e6 : ((k : Int) < 4) := by omega
      obtain ⟨b0, o0, rfl, e0, e1, e2, _⟩ := HL.out.below HI.out.bel k hlt
      obtain ⟨⟨hc1, hc2⟩, hc3, hc4⟩ := HC.out k hlt
      have HSN := Lib.hid (few_snoc hlt)
      have HLN := Lib.hid (few_len hk)
      have hm0 : k + 1 ≤ maxLen := by unfold maxLen; omega
      have hm0b : (k + 1) * 56 ≤ 140737488355328 := by omega
      generalize gdV N k = u at *
      obtain ⟨um, uBA, uBC, ub, uTA, uTC, ut⟩ := u
      dsimp only at e0 e1 e2 hc1 hc2 hc3 hc4
      replace HSN := Lib.hid (show (N.take k).map fewv ++ [(⟨um, uBA, uBC, ub.take 6, uTA, uTC, ut.take 8⟩ : Sv)] = (N.take (k + 1)).map fewv from HSN.out)
      obtain ⟨n1, hn1⟩ : ∃ n, (ub.take 6).length = n := ⟨_, rfl⟩
      have hmin1 : min (ub.length : Int) 6 = (n1 : Int) := by rw [← hn1, List.length_take]; omega
      have hmjn1 : (if (6 : Int) < (ub.length : Int) then (6 : Int) else (ub.length : Int)) = (n1 : Int) := by rw [← hn1, List.length_take]; split <;> omega
      have hnnn1 : (n1 : Int) ≤ uBC := by rw [← hn1, List.length_take]; omega
      have hnzn1 : (0 : Int) ≤ n1 := by omega
      have hncn1 : n1 ≤ uBC := by omega
      have hmzn1 := map_zero uBA uBC
      obtain ⟨n2, hn2⟩ : ∃ n, (ut.take 8).length = n := ⟨_, rfl⟩
      have hmin2 : min (ut.length : Int) 8 = (n2 : Int) := by rw [← hn2, List.length_take]; omega
      have hmjn2 : (if (8 : Int) < (ut.length : Int) then (8 : Int) else (ut.length : Int)) = (n2 : Int) := by rw [← hn2, List.length_take]; split <;> omega
      have hnnn2 : (n2 : Int) ≤ uTC := by rw [← hn2, List.length_take]; omega
      have hnzn2 : (0 : Int) ≤ n2 := by omega
      have hncn2 : n2 ≤ uTC := by omega
      have hmzn2 := map_zero uTA uTC
      have HN_ := Lib.hid (And.intro hn1 hn2)
      clear hn1 hn2 hc1 hc2 hc3 hc4
      have hb := below_new wr (.cells #[.int .i64 um, .slice uBA ub.length uBC, .slice uTA ut.length uTC] 38)
      have kz : (wr.alloc (.cells #[.int .i64 um, .slice uBA ub.length uBC, .slice uTA ut.length uTC] 38)).heap[wr.heap.size]? = some (.cells #[.int .i64 um, .slice uBA ub.length uBC, .slice uTA ut.length uTC] 38 (0, 0)) := World.alloc_heap_new _ _
      go_wp2_with fail
      generalize wr.alloc (.cells #[.int .i64 um, .slice uBA ub.length uBC, .slice uTA ut.length uTC] 38) = w1 at *
      have HLT := Lib.hid (fun j (hj : Value.ownBlock v = some j) => (HI.out.own.lt j hj).2)
      replace HI := Lib.hid (HI.out.on hb)
      clear hb e0 e1 e2 p0 p1
      obtain ⟨z0, z1, z2⟩ := cells3 kz
      obtain ⟨u0, u1, fu0, fu1⟩ := two_cells HI.out.u
      generalize wr.heap.size = g5 at *
      have HKZ := Lib.hid kz
      clear kz fu0 fu1
      have kpf : ∀ {V : World}, Below w1.heap.size w1 V → V.cell? ⟨g5, 0, none⟩ = some (.int .i64 um) ∧ V.cell? ⟨g5, 1, none⟩ = some (.slice uBA ub.length uBC) ∧ V.cell? ⟨g5, 2, none⟩ = some (.slice uTA ut.length uTC) := fun h => ⟨keepc h z0, keepc h z1, keepc h z2⟩
      refine wp_region_held_drew (S := fun V => V.cell? ⟨g5, 0, none⟩ = some (.int .i64 um) ∧ V.cell? ⟨g5, 1, none⟩ = some (.slice uBA ub.length uBC) ∧ V.cell? ⟨g5, 2, none⟩ = some (.slice uTA ut.length uTC)) (by kernel_rfl) (kpf (Below.refl _ _).drew) fun HL_ => ?_
      refine wpAnyH_take (i := 0) (v := .pointer (some ⟨w.heap.size + 1 + 1, 1, none⟩)) rfl (by kernel_rfl) (by kernel_rfl) (by kernel_rfl) (fun _ _ _ h => h) (Or.inl ⟨by kernel_rfl, ?_⟩) HL_ ?_
      · rintro Wl ⟨s0, s1, s2⟩
        go_simp
      simp only [Act.put, List.getElem_toArray, List.getElem_cons_succ, List.getElem_cons_zero, List.setIfInBounds_toArray, List.set_cons_zero, List.set_cons_succ]
      refine wpAnyH_take (i := 2) (v := .pointer (some ⟨g5, 0, none⟩)) rfl (by kernel_rfl) (by kernel_rfl) (by kernel_rfl) (fun _ _ _ h => h) (Or.inl ⟨by kernel_rfl, ?_⟩) HL_ ?_
      · rintro Wl ⟨s0, s1, s2⟩
        go_simp
      simp only [Act.put, List.getElem_toArray, List.getElem_cons_succ, List.getElem_cons_zero, List.setIfInBounds_toArray, List.set_cons_zero, List.set_cons_succ]
      refine wpAnyH_take (i := 3) (v := .int .i64 um) rfl (by kernel_rfl) (by kernel_rfl) (by kernel_rfl) (fun _ _ _ h => h) (Or.inl ⟨by kernel_rfl, ?_⟩) HL_ ?_
      · rintro Wl ⟨s0, s1, s2⟩
        go_simp
      simp only [Act.put, List.getElem_toArray, List.getElem_cons_succ, List.getElem_cons_zero, List.setIfInBounds_toArray, List.set_cons_zero, List.set_cons_succ]
      refine wpAnyH_take (i := 4) (v := .pointer (some ⟨g5, 1, none⟩)) rfl (by kernel_rfl) (by kernel_rfl) (by kernel_rfl) (fun _ _ _ h => h) (Or.inl ⟨by kernel_rfl, ?_⟩) HL_ ?_
      · rintro Wl ⟨s0, s1, s2⟩
        go_simp
      simp only [Act.put, List.getElem_toArray, List.getElem_cons_succ, List.getElem_cons_zero, List.setIfInBounds_toArray, List.set_cons_zero, List.set_cons_succ]
      refine wpAnyH_take (i := 5) (v := .slice uBA ub.length uBC) rfl (by kernel_rfl) (by kernel_rfl) (by kernel_rfl) (fun _ _ _ h => h) (Or.inl ⟨by kernel_rfl, ?_⟩) HL_ ?_
      · rintro Wl ⟨s0, s1, s2⟩
        go_simp
      simp only [Act.put, List.getElem_toArray, List.getElem_cons_succ, List.getElem_cons_zero, List.setIfInBounds_toArray, List.set_cons_zero, List.set_cons_succ]
      refine wpAnyH_take (i := 6) (v := .pointer (some ⟨g5, 1, none⟩)) rfl (by kernel_rfl) (by kernel_rfl) (by kernel_rfl) (fun _ _ _ h => h) (Or.inl ⟨by kernel_rfl, ?_⟩) HL_ ?_
      · rintro Wl ⟨s0, s1, s2⟩
        go_simp
      simp only [Act.put, List.getElem_toArray, List.getElem_cons_succ, List.getElem_cons_zero, List.setIfInBounds_toArray, List.set_cons_zero, List.set_cons_succ]
      refine wpAnyH_take (i := 7) (v := .slice uBA ub.length uBC) rfl (by kernel_rfl) (by kernel_rfl) (by kernel_rfl) (fun _ _ _ h => h) (Or.inl ⟨by kernel_rfl, ?_⟩) HL_ ?_
      · rintro Wl ⟨s0, s1, s2⟩
        go_simp
      simp only [Act.put, List.getElem_toArray, List.getElem_cons_succ, List.getElem_cons_zero, List.setIfInBounds_toArray, List.set_cons_zero, List.set_cons_succ]
      refine wpAnyH_take (i := 8) (v := .int .i64 ub.length) rfl (by kernel_rfl) (by kernel_rfl) (by kernel_rfl) (fun _ _ _ h => h) (Or.inl ⟨by kernel_rfl, ?_⟩) HL_ ?_
      · rintro Wl ⟨s0, s1, s2⟩
        go_simp
      simp only [Act.put, List.getElem_toArray, List.getElem_cons_succ, List.getElem_cons_zero, List.setIfInBounds_toArray, List.set_cons_zero, List.set_cons_succ]
      refine wpAnyH_take (i := 9) (v := .int .i64 n1) rfl (by kernel_rfl) (by kernel_rfl) (by kernel_rfl) (fun _ _ _ h => h) (Or.inl ⟨by kernel_rfl, ?_⟩) HL_ ?_
      · rintro Wl ⟨s0, s1, s2⟩
        go_simp
      simp only [Act.put, List.getElem_toArray, List.getElem_cons_succ, List.getElem_cons_zero, List.setIfInBounds_toArray, List.set_cons_zero, List.set_cons_succ]
      refine wpAnyH_take (i := 10) (v := .slice uBA n1 uBC) rfl (by kernel_rfl) (by kernel_rfl) (by kernel_rfl) (fun _ _ _ h => h) (Or.inl ⟨by kernel_rfl, ?_⟩) HL_ ?_
      · rintro Wl ⟨s0, s1, s2⟩
        go_simp
      simp only [Act.put, List.getElem_toArray, List.getElem_cons_succ, List.getElem_cons_zero, List.setIfInBounds_toArray, List.set_cons_zero, List.set_cons_succ]
      refine wpAnyH_take (i := 11) (v := .pointer (some ⟨g5, 2, none⟩)) rfl (by kernel_rfl) (by kernel_rfl) (by kernel_rfl) (fun _ _ _ h => h) (Or.inl ⟨by kernel_rfl, ?_⟩) HL_ ?_
      · rintro Wl ⟨s0, s1, s2⟩
        go_simp
      simp only [Act.put, List.getElem_toArray, List.getElem_cons_succ, List.getElem_cons_zero, List.setIfInBounds_toArray, List.set_cons_zero, List.set_cons_succ]
      refine wpAnyH_take (i := 12) (v := .slice uTA ut.length uTC) rfl (by kernel_rfl) (by kernel_rfl) (by kernel_rfl) (fun _ _ _ h => h) (Or.inl ⟨by kernel_rfl, ?_⟩) HL_ ?_
      · rintro Wl ⟨s0, s1, s2⟩
        go_simp
      simp only [Act.put, List.getElem_toArray, List.getElem_cons_succ, List.getElem_cons_zero, List.setIfInBounds_toArray, List.set_cons_zero, List.set_cons_succ]
      refine wpAnyH_take (i := 13) (v := .pointer (some ⟨g5, 2, none⟩)) rfl (by kernel_rfl) (by kernel_rfl) (by kernel_rfl) (fun _ _ _ h => h) (Or.inl ⟨by kernel_rfl, ?_⟩) HL_ ?_
      · rintro Wl ⟨s0, s1, s2⟩
        go_simp
      simp only [Act.put, List.getElem_toArray, List.getElem_cons_succ, List.getElem_cons_zero, List.setIfInBounds_toArray, List.set_cons_zero, List.set_cons_succ]
      refine wpAnyH_take (i := 14) (v := .slice uTA ut.length uTC) rfl (by kernel_rfl) (by kernel_rfl) (by kernel_rfl) (fun _ _ _ h => h) (Or.inl ⟨by kernel_rfl, ?_⟩) HL_ ?_
      · rintro Wl ⟨s0, s1, s2⟩
        go_simp
      simp only [Act.put, List.getElem_toArray, List.getElem_cons_succ, List.getElem_cons_zero, List.setIfInBounds_toArray, List.set_cons_zero, List.set_cons_succ]
      refine wpAnyH_take (i := 15) (v := .int .i64 ut.length) rfl (by kernel_rfl) (by kernel_rfl) (by kernel_rfl) (fun _ _ _ h => h) (Or.inl ⟨by kernel_rfl, ?_⟩) HL_ ?_
      · rintro Wl ⟨s0, s1, s2⟩
        go_simp
      simp only [Act.put, List.getElem_toArray, List.getElem_cons_succ, List.getElem_cons_zero, List.setIfInBounds_toArray, List.set_cons_zero, List.set_cons_succ]
      refine wpAnyH_take (i := 16) (v := .int .i64 n2) rfl (by kernel_rfl) (by kernel_rfl) (by kernel_rfl) (fun _ _ _ h => h) (Or.inl ⟨by kernel_rfl, ?_⟩) HL_ ?_
      · rintro Wl ⟨s0, s1, s2⟩
        go_simp
      simp only [Act.put, List.getElem_toArray, List.getElem_cons_succ, List.getElem_cons_zero, List.setIfInBounds_toArray, List.set_cons_zero, List.set_cons_succ]
      refine wpAnyH_take (i := 17) (v := .slice uTA n2 uTC) rfl (by kernel_rfl) (by kernel_rfl) (by kernel_rfl) (fun _ _ _ h => h) (Or.inl ⟨by kernel_rfl, ?_⟩) HL_ ?_
      · rintro Wl ⟨s0, s1, s2⟩
        go_simp
      simp only [Act.put, List.getElem_toArray, List.getElem_cons_succ, List.getElem_cons_zero, List.setIfInBounds_toArray, List.set_cons_zero, List.set_cons_succ]
      refine wpAnyH_take (i := 18) (v := .agg #[.int .i64 um, .slice uBA n1 uBC, .slice uTA n2 uTC]) rfl (by kernel_rfl) (by kernel_rfl) (by kernel_rfl) (fun _ _ _ h => h) (Or.inl ⟨by kernel_rfl, ?_⟩) HL_ ?_
      · rintro Wl ⟨s0, s1, s2⟩
        go_simp
      simp only [Act.put, List.getElem_toArray, List.getElem_cons_succ, List.getElem_cons_zero, List.setIfInBounds_toArray, List.set_cons_zero, List.set_cons_succ]
      refine wpAnyH_ready (rs := [1, 19]) (by kernel_rfl) (by simp) ?_
      refine AllReadyH.cons (o := _) rfl (fun K hK => ?_) (AllReadyH.cons (o := _) rfl (fun K hK => ?_) AllReadyH.nil)
      · have ud := (show w1.drew.cell? ⟨w.heap.size + 1 + 1, 1, none⟩ = some v from u1)
        go_simp
        refine hK.out _ _ (kpf (Below.refl _ _).drew) fun HL_ => ?_
        clear hK K ud
        refine wpAnyH_ready (rs := [19]) (by kernel_rfl) (by simp) ?_
        refine AllReadyH.cons (o := _) rfl (fun K hK => ?_) AllReadyH.nil
        go_simp
        have hb2 : Below w1.heap.size w1 (w1.alloc (.cells #[.int .i64 um, .slice uBA n1 uBC, .slice uTA n2 uTC] 38)).drew := (below_new w1 (.cells #[.int .i64 um, .slice uBA n1 uBC, .slice uTA n2 uTC] 38)).drew
        refine hK.out _ _ (kpf hb2) fun HL_ => ?_
        clear hK K
        have HSR := src_new w1 #[.int .i64 um, .slice uBA n1 uBC, .slice uTA n2 uTC] 38
        refine wpAnyH_ready (rs := [20]) (by kernel_rfl) (by simp) ?_
        refine AllReadyH.cons (o := _) rfl (fun K hK => ?_) AllReadyH.nil
        refine step_app _ (by rfl) _ _ _ (by rfl) w3.heap.size 38 i1 _ 3 56 Try.underlying23 hi1 hy0 hy1 hy2 rfl (by decide) _ _ _ (by rfl) (HI.out.own.alloc _).drew (some ⟨w1.heap.size, 0, none⟩) 1 1 [.int .i64 um, .slice uBA n1 uBC, .slice uTA n2 uTC] (by rfl) rfl HSR (by intro u_ hu_; simp only [List.mem_cons, List.not_mem_nil, or_false] at hu_; rcases hu_ with rfl | rfl | rfl <;> rfl) hm0 hm0b (Nat.le_trans HI.out.le hb2.size) ?_
        intro v1 uw1 own1 gr1
        have HI2 := Lib.hid (HI.out.on hb2)
        have kz2 : uw1.heap[g5]? = some (.cells #[.int .i64 um, .slice uBA ub.length uBC, .slice uTA ut.length uTC] 38 (0, 0)) := (gr1.block g5 (Array.getElem?_eq_some_iff.1 (blk_on HKZ.out hb2)).1 (fun e => by have := HLT.out g5 e.symm; omega)).trans (blk_on HKZ.out hb2)
        have hg5 : g5 ≠ w.heap.size + 1 + 1 := fun e => by rw [e] at kz2; have h := HI2.out.far gr1 HI2.out.u HI2.out.lb; rw [kz2] at h; injection h with h; injection h with _ h _; exact absurd h (by decide)
        refine hK.out _ _ (cells3 kz2) fun HL_ => ?_
        clear hK K
        obtain ⟨x0, x1, fx0, fx1⟩ := two_cells (HI2.out.far gr1 HI2.out.u HI2.out.lb)
        have own2 : uw1.ownsRow w3.heap.size 38 3 v1 (k + 1) (flt svc ((N.take (k + 1)).map fewv)) := by
          rw [← HSN.out, ← flt_snoc]
          unfold svc
          dsimp only
          rw [HN_.out.1, HN_.out.2]
          exact own1
        obtain ⟨vA, vC, hv1⟩ := own_slice own2
        subst hv1
        have HP2 := Lib.hid (HI2.out.put gr1 (Nat.le_refl _) own2)
        clear own1 own2 gr1 HI HI2
        have kz3 := blk_far (i := 1) (u := .slice vA (k + 1) vC) kz2 hg5
        clear kz2
        refine wpAnyH_take (i := 21) (v := .pointer (some ⟨w.heap.size + 1 + 1, 1, none⟩)) rfl (by kernel_rfl) (by kernel_rfl) (by kernel_rfl) (fun _ _ _ h => h) (Or.inl ⟨by kernel_rfl, ?_⟩) HL_ ?_
        · rintro Wl ⟨s0, s1, s2⟩
          go_simp
        simp only [Act.put, List.getElem_toArray, List.getElem_cons_succ, List.getElem_cons_zero, List.setIfInBounds_toArray, List.set_cons_zero, List.set_cons_succ]
        refine wpAnyH_ready (rs := [22]) (by kernel_rfl) (by simp) ?_
        refine AllReadyH.cons (o := _) rfl (fun K hK => ?_) AllReadyH.nil
        go_simp
        refine hK.out _ _ (cells3 kz3) fun HL_ => ?_
        clear hK K kz3 x0 x1 fx0 fx1 hg5
        refine wpAnyH_done (by kernel_rfl) ?_ _
        clear HL_ kpf z0 z1 z2 u0 u1 HKZ HLT HSR hb2 HSN HLN HN_ hm0 hm0b hmin1 hmjn1 hnnn1 hnzn1 hncn1 hmzn1 hmin2 hmjn2 hnnn2 hnzn2 hncn2 hmzn2
        go_wp2_with fail
        go_roundw
        case rel => exact ⟨k + 1, _, ⟨hlt, hl6⟩, int_of (by first | rfl | exact w1_ | exact w2_), HP2.out⟩
        case measure => simp [intOf, w1_, w2_]; clear w1_ w2_; omega
      · go_simp
        have hb2 : Below w1.heap.size w1 (w1.alloc (.cells #[.int .i64 um, .slice uBA n1 uBC, .slice uTA n2 uTC] 38)).drew := (below_new w1 (.cells #[.int .i64 um, .slice uBA n1 uBC, .slice uTA n2 uTC] 38)).drew
        refine hK.out _ _ (kpf hb2) fun HL_ => ?_
        clear hK K
        refine wpAnyH_ready (rs := [1]) (by kernel_rfl) (by simp) ?_
        refine AllReadyH.cons (o := _) rfl (fun K hK => ?_) AllReadyH.nil
        have ud := keepc hb2 u1
        go_simp
        refine hK.out _ _ (kpf hb2) fun HL_ => ?_
        clear hK K ud
        have HSR := src_new w1 #[.int .i64 um, .slice uBA n1 uBC, .slice uTA n2 uTC] 38
        refine wpAnyH_ready (rs := [20]) (by kernel_rfl) (by simp) ?_
        refine AllReadyH.cons (o := _) rfl (fun K hK => ?_) AllReadyH.nil
        refine step_app _ (by rfl) _ _ _ (by rfl) w3.heap.size 38 i1 _ 3 56 Try.underlying23 hi1 hy0 hy1 hy2 rfl (by decide) _ _ _ (by rfl) (HI.out.own.alloc _).drew (some ⟨w1.heap.size, 0, none⟩) 1 1 [.int .i64 um, .slice uBA n1 uBC, .slice uTA n2 uTC] (by rfl) rfl HSR (by intro u_ hu_; simp only [List.mem_cons, List.not_mem_nil, or_false] at hu_; rcases hu_ with rfl | rfl | rfl <;> rfl) hm0 hm0b (Nat.le_trans HI.out.le hb2.size) ?_
        intro v1 uw1 own1 gr1
        have HI2 := Lib.hid (HI.out.on hb2)
        have kz2 : uw1.heap[g5]? = some (.cells #[.int .i64 um, .slice uBA ub.length uBC, .slice uTA ut.length uTC] 38 (0, 0)) := (gr1.block g5 (Array.getElem?_eq_some_iff.1 (blk_on HKZ.out hb2)).1 (fun e => by have := HLT.out g5 e.symm; omega)).trans (blk_on HKZ.out hb2)
        have hg5 : g5 ≠ w.heap.size + 1 + 1 := fun e => by rw [e] at kz2; have h := HI2.out.far gr1 HI2.out.u HI2.out.lb; rw [kz2] at h; injection h with h; injection h with _ h _; exact absurd h (by decide)
        refine hK.out _ _ (cells3 kz2) fun HL_ => ?_
        clear hK K
        obtain ⟨x0, x1, fx0, fx1⟩ := two_cells (HI2.out.far gr1 HI2.out.u HI2.out.lb)
        have own2 : uw1.ownsRow w3.heap.size 38 3 v1 (k + 1) (flt svc ((N.take (k + 1)).map fewv)) := by
          rw [← HSN.out, ← flt_snoc]
          unfold svc
          dsimp only
          rw [HN_.out.1, HN_.out.2]
          exact own1
        obtain ⟨vA, vC, hv1⟩ := own_slice own2
        subst hv1
        have HP2 := Lib.hid (HI2.out.put gr1 (Nat.le_refl _) own2)
        clear own1 own2 gr1 HI HI2
        have kz3 := blk_far (i := 1) (u := .slice vA (k + 1) vC) kz2 hg5
        clear kz2
        refine wpAnyH_take (i := 21) (v := .pointer (some ⟨w.heap.size + 1 + 1, 1, none⟩)) rfl (by kernel_rfl) (by kernel_rfl) (by kernel_rfl) (fun _ _ _ h => h) (Or.inl ⟨by kernel_rfl, ?_⟩) HL_ ?_
        · rintro Wl ⟨s0, s1, s2⟩
          go_simp
        simp only [Act.put, List.getElem_toArray, List.getElem_cons_succ, List.getElem_cons_zero, List.setIfInBounds_toArray, List.set_cons_zero, List.set_cons_succ]
        refine wpAnyH_ready (rs := [22]) (by kernel_rfl) (by simp) ?_
        refine AllReadyH.cons (o := _) rfl (fun K hK => ?_) AllReadyH.nil
        go_simp
        refine hK.out _ _ (cells3 kz3) fun HL_ => ?_
        clear hK K kz3 x0 x1 fx0 fx1 hg5
        refine wpAnyH_done (by kernel_rfl) ?_ _
        clear HL_ kpf z0 z1 z2 u0 u1 HKZ HLT HSR hb2 HSN HLN HN_ hm0 hm0b hmin1 hmjn1 hnnn1 hnzn1 hncn1 hmzn1 hmin2 hmjn2 hnnn2 hnzn2 hncn2 hmzn2
        go_wp2_with fail
        go_roundw
        case rel => exact ⟨k + 1, _, ⟨hlt, hl6⟩, int_of (by first | rfl | exact w1_ | exact w2_), HP2.out⟩
        case measure => simp [intOf, w1_, w2_]; clear w1_ w2_; omega
    · have e5 : ¬ ((k : Int) < (N.length : Int)) ∨ ((k : Int) < (N.length : Int) ∧ ¬ ((k : Int) < 4)) := by omega
      have HF := Lib.hid (show (N.take k).map fewv = M from by
        rw [← hM]
        unfold fewl
        by_cases h6 : k < 4
        · have hk2 : k = N.length := by have := fun h => hlt ⟨h, h6⟩; omega
          subst hk2
          rw [List.take_of_length_le (Nat.le_refl _), List.take_of_length_le (by omega)]
        · have hk2 : k = 4 := by omega
          subst hk2; rfl)
      have HLM := Lib.hid (show ((N.take k).map fewv).length = M.length by rw [HF.out])
      have hb9 : Below w.heap.size w ((wr.setCell ⟨w.heap.size + 1, 0, none⟩ (.slice SA ns SC)).setCell ⟨w.heap.size + 1, 1, none⟩ v) := (HI.out.bel.setCell (by show w.heap.size ≤ w.heap.size + 1; omega) _).setCell (by show w.heap.size ≤ w.heap.size + 1; omega) _
      have HS := Lib.hid (show ∀ i, i < ((N.take k).map fewv).length → BdS ((wr.setCell ⟨w.heap.size + 1, 0, none⟩ (.slice SA ns SC)).setCell ⟨w.heap.size + 1, 1, none⟩ v) (gdV ((N.take k).map fewv) i).BA (gdV ((N.take k).map fewv) i).bs ∧ S4 ((wr.setCell ⟨w.heap.size + 1, 0, none⟩ (.slice SA ns SC)).setCell ⟨w.heap.size + 1, 1, none⟩ v) (gdV ((N.take k).map fewv) i).TA (gdV ((N.take k).map fewv) i).ts from fun i hi => by
        rw [few_len hk] at hi
        obtain ⟨_, _, _, _, _, _, h4, h5⟩ := HL.out.below hb9 i (by omega)
        rw [few_at hi hk]
        exact ⟨h4.take 6, s4_take h5 8⟩)
      have own9 := own_set (g := w.heap.size + 1) (i := 1) (u := v) (own_set (g := w.heap.size + 1) (i := 0) (u := .slice SA ns SC) HI.out.own (by have := HI.out.lb; omega)) (by have := HI.out.lb; omega)
      have hlk := few_len hk
      have own8 : ((wr.setCell ⟨w.heap.size + 1, 0, none⟩ (.slice SA ns SC)).setCell ⟨w.heap.size + 1, 1, none⟩ v).ownsRow w3.heap.size 38 3 v k (flt svc ((N.take k).map fewv)) := own9
      obtain ⟨B, D, rfl, hd1, hd2, hxs⟩ := own_svs2 own8 HS.out
      have HD := Lib.hid (show M.length ≤ D ∧ D ≤ 9223372036854775807 from ⟨by rw [← HLM.out]; exact hd1, hd2⟩)
      clear hd1 hd2
      rw [HF.out] at hxs
      obtain ⟨u0, u1, _, _⟩ := two_cells HI.out.u
      obtain ⟨o0, o1, f0, f1⟩ := two_cells HI.out.o
      have lo := block_lt o0
      have hko := HI.out.o
      have hl9 := HLM.out
      clear own8 own9 hlk
      rw [hl9] at u1 hb9
      clear HI HS HF HLM hlt hl9
      obtain ⟨x0, x1, _, _⟩ := two_cells (show ((wr.setCell ⟨w.heap.size + 1, 0, none⟩ (.slice SA ns SC)).setCell ⟨w.heap.size + 1, 1, none⟩ (.slice B M.length D)).heap[w.heap.size + 1]? = some (.cells #[.slice SA ns SC, .slice B M.length D] 25 (0, 0)) from set_cells (set_cells hko 0 _) 1 _)
      clear hko
      rcases e5 with e5 | ⟨e5, e6⟩
      all_goals go_wp2_with fail
      all_goals refine bodyPost_ret (v := .agg #[.slice SA ns SC, .slice B M.length D]) (by simp [results, Try.results5, go_sem, x0, x1]) rfl ⟨B, ⟨D, HD.out, rfl⟩, hxs, hb9⟩
theorem SvS.take {w : World} {A : Option Addr} {L : List Sv} (h : SvS w A L) (n : Nat) : SvS w A (L.take n) := fun k hk => by
  rw [List.length_take] at hk
  have e : gdV (L.take n) k = gdV L k := by unfold gdV; rw [List.getD_eq_getElem?_getD, List.getD_eq_getElem?_getD, List.getElem?_take, if_pos (by omega)]
  rw [e]
  exact h k (by omega)
theorem SvS.drop {w : World} {A : Option Addr} {L : List Sv} (h : SvS w A L) (k C : Nat) (hC : L.length ≤ C) : SvS w (adr A C k 3) (L.drop k) := fun j hj => by
  rw [List.length_drop] at hj
  obtain ⟨b, o, rfl, h1, h2, h3, h4⟩ := h (k + j) (by omega)
  have e : gdV (L.drop k) j = gdV L (k + j) := by unfold gdV; rw [List.getD_eq_getElem?_getD, List.getD_eq_getElem?_getD, List.getElem?_drop]
  have e2 : o + (k + j) * 3 = o + k * 3 + j * 3 := by omega
  rw [e2] at h1 h2 h3
  unfold adr
  rw [if_neg (by omega), e]
  refine ⟨b, o + k * 3, ?_, h1, h2, h3, h4⟩
  by_cases h0 : k * 3 = 0
  · simp [Addr.add, h0]
  · simp [Addr.add, h0]
theorem adr_eq {A : Option Addr} {C k n : Nat} (h : k ≤ C) : (if C = k then A else A.map fun x => x.add (k * n)) = adr A C k n := by
  unfold adr
  by_cases h1 : C = k
  · rw [if_pos h1, if_pos (by omega)]
  · rw [if_neg h1, if_neg (by omega)]
/-! ### Sums over lists -/
theorem all_gdV {P : Sv → Prop} {N : List Sv} : (∀ k, k < N.length → P (gdV N k)) ↔ ∀ s ∈ N, P s := by
  constructor
  · intro h s hs
    obtain ⟨i, hi, rfl⟩ := List.mem_iff_getElem.1 hs
    have := h i hi
    rwa [gdV_at hi] at this
  · intro h k hk
    rw [gdV_at hk]
    exact h _ (List.getElem_mem hk)
theorem msum_map (N : List Sv) : ∀ k, k ≤ N.length → msum N k = ((N.take k).map Sv.m).sum
  | 0, _ => rfl
  | k + 1, hk => by
    unfold msum
    rw [msum_map N k (by omega), List.take_succ_eq_append_getElem (show k < N.length by omega), List.map_append, List.sum_append, gdV_at (show k < N.length by omega)]
    simp
theorem tsum_map (f : Sv → Int) (N : List Sv) : ∀ k, k ≤ N.length → tsum f N k = ((N.take k).map fun s => f s * s.m).sum
  | 0, _ => rfl
  | k + 1, hk => by
    unfold tsum
    rw [tsum_map f N k (by omega), List.take_succ_eq_append_getElem (show k < N.length by omega), List.map_append, List.sum_append, gdV_at (show k < N.length by omega)]
    simp
theorem msum_all (N : List Sv) : msum N N.length = (N.map Sv.m).sum := by rw [msum_map N _ (Nat.le_refl _), List.take_length]
theorem tsum_all (f : Sv → Int) (N : List Sv) : tsum f N N.length = (N.map fun s => f s * s.m).sum := by rw [tsum_map f N _ (Nat.le_refl _), List.take_length]
/-- A list with a scene divided. -/
def dvd (M : List Sv) (k : Nat) (x y : Sv) : List Sv := (M.take k ++ [x, y]) ++ M.drop (k + 1)
section
variable {M : List Sv} {k : Nat} {x y : Sv} (hk : k < M.length)
include hk
theorem dvd_split : M = M.take k ++ gdV M k :: M.drop (k + 1) := by
  rw [gdV_at hk, ← List.drop_eq_getElem_cons hk, List.take_append_drop]
theorem dvd_len : (dvd M k x y).length = M.length + 1 := by
  unfold dvd; rw [List.length_append, List.length_append, List.length_take, List.length_drop]; simp; omega
omit hk in
theorem dvd_all {P : Sv → Prop} (h : ∀ s ∈ M, P s) (hx : P x) (hy : P y) : ∀ s ∈ dvd M k x y, P s := by
  intro s hs
  unfold dvd at hs
  simp only [List.mem_append, List.mem_cons, List.not_mem_nil, or_false] at hs
  rcases hs with (hs | rfl | rfl) | hs
  · exact h s (List.mem_of_mem_take hs)
  · exact hx
  · exact hy
  · exact h s (List.mem_of_mem_drop hs)
theorem dvd_msum (hm : x.m + y.m = (gdV M k).m) : msum (dvd M k x y) (dvd M k x y).length = msum M M.length := by
  rw [msum_all, msum_all]
  conv => rhs; rw [dvd_split hk]
  unfold dvd
  simp only [List.map_append, List.map_cons, List.map_nil, List.sum_append, List.sum_cons, List.sum_nil]
  omega
theorem dvd_tsum {f : Sv → Int} (hm : x.m + y.m = (gdV M k).m) (hx : f x = f (gdV M k)) (hy : f y = f (gdV M k)) : tsum f (dvd M k x y) (dvd M k x y).length = tsum f M M.length := by
  rw [tsum_all, tsum_all]
  conv => rhs; rw [dvd_split hk]
  unfold dvd
  simp only [List.map_append, List.map_cons, List.map_nil, List.sum_append, List.sum_cons, List.sum_nil, hx, hy]
  rw [← hm, Int.mul_add]
  omega
end
/-- The share of the piece stays. -/
theorem tot_dvd {T : List Bv} {M : List Sv} {ex ey ez : Int} {Q : List Bv} {n d : Int} {k : Nat} {x y : Sv} (h : TotR T M ex ey ez Q n d 0) (h4 : M.length ≤ 4) (hk : k < M.length) (hm : x.m + y.m = (gdV M k).m) (h1 : 1 ≤ x.m) (h2 : 1 ≤ y.m)
    (hxb : x.bs = (gdV M k).bs) (hxt : x.ts = (gdV M k).ts) (hyb : y.bs = (gdV M k).bs) (hyt : y.ts = (gdV M k).ts) : TotR T (dvd M k x y) ex ey ez Q n d 0 := by
  obtain ⟨_, hok, hlm, _, _, e1, e2⟩ := tot_vld h
  have hs := hok.1.2.2.2.2
  obtain ⟨m1, m2, tw, bd⟩ := hs k hk
  have fx : shn ex ey ez T Q x = shn ex ey ez T Q (gdV M k) := shn_eq hxt (fun b => by unfold alb; rw [hxb])
  have fy : shn ex ey ez T Q y = shn ex ey ez T Q (gdV M k) := shn_eq hyt (fun b => by unfold alb; rw [hyb])
  have lm := all_gdV (P := fun s => T.length + s.bs.length + Q.length ≤ 60) |>.1 hlm
  have l0 := all_gdV (P := fun s => T.length + s.bs.length + 0 ≤ 60) |>.1 hok.1.2.2.1
  have ls := all_gdV (P := Sco) |>.1 hs
  have le := all_gdV (P := fun s => Eyo ex ey ez s.ts) |>.1 hok.2.2.2
  refine Or.inr ⟨rfl, ⟨⟨by rw [dvd_len hk]; omega, by rw [dvd_len hk]; omega, ?_, hok.1.2.2.2.1, ?_⟩, hok.2.1, hok.2.2.1, ?_⟩, ?_, ?_, ?_⟩
  · exact all_gdV (P := fun s => T.length + s.bs.length + 0 ≤ 60) |>.2 (dvd_all l0 (by rw [hxb]; exact hok.1.2.2.1 k hk) (by rw [hyb]; exact hok.1.2.2.1 k hk))
  · exact all_gdV (P := Sco) |>.2 (dvd_all ls ⟨h1, by omega, by rw [hxt]; exact tw, by rw [hxb]; exact bd⟩ ⟨h2, by omega, by rw [hyt]; exact tw, by rw [hyb]; exact bd⟩)
  · exact all_gdV (P := fun s => Eyo ex ey ez s.ts) |>.2 (dvd_all le (by rw [hxt]; exact hok.2.2.2 k hk) (by rw [hyt]; exact hok.2.2.2 k hk))
  · exact all_gdV (P := fun s => T.length + s.bs.length + Q.length ≤ 60) |>.2 (dvd_all lm (by rw [hxb]; exact hlm k hk) (by rw [hyb]; exact hlm k hk))
  · rw [dvd_tsum hk hm fx fy, dvd_msum hk hm]; exact e1
  · rw [dvd_tsum hk hm fx fy, dvd_msum hk hm]; exact e2
/-! ### Slices of scenes as sources; one cell of a box is written -/
theorem svc_one (q : Sv) : ∀ u ∈ svc q, u.oneCell' = true := by
  intro u hu; simp only [svc, List.mem_cons, List.not_mem_nil, or_false] at hu
  rcases hu with rfl | rfl | rfl <;> rfl
theorem svs_cells {w : World} {b o : Nat} {L : List Sv} (h : SvS w (some ⟨b, o, none⟩) L) : ∀ j u, (flt svc L)[j]? = some u → w.cell? ((⟨b, o, none⟩ : Addr).add j) = some u := by
  intro j u hu
  have hj : j < L.length * 3 := by rw [← flt_len svc_len]; exact (List.getElem?_eq_some_iff.1 hu).1
  obtain ⟨b1, o1, e, c0, c1, c2, _⟩ := h (j / 3) (by omega)
  obtain ⟨rfl, rfl⟩ : b = b1 ∧ o = o1 := by simpa using e
  obtain ⟨e0, e1, e2⟩ := svc_at (show j / 3 < L.length by omega)
  rw [add_plain b o j]
  have hm : j % 3 = 0 ∨ j % 3 = 1 ∨ j % 3 = 2 := by omega
  rcases hm with p | p | p
  · rw [show j / 3 * 3 = j by omega] at e0 c0; rw [e0] at hu; rw [c0, hu]
  · rw [show j / 3 * 3 + 1 = j by omega] at e1; rw [show o + j / 3 * 3 + 1 = o + j by omega] at c1; rw [e1] at hu; rw [c1, hu]
  · rw [show j / 3 * 3 + 2 = j by omega] at e2; rw [show o + j / 3 * 3 + 2 = o + j by omega] at c2; rw [e2] at hu; rw [c2, hu]
theorem svs_src {w : World} {A : Option Addr} {L : List Sv} (h : SvS w A L) : Src w A (flt svc L) := fun j u hu => by
  have hj : j < L.length * 3 := by rw [← flt_len svc_len]; exact (List.getElem?_eq_some_iff.1 hu).1
  obtain ⟨b1, o1, rfl, _⟩ := h (j / 3) (by omega)
  exact ⟨_, rfl, svs_cells h j u hu⟩
section
variable {W W' : World} {g b i : Nat} (he : ∀ b, b < W.heap.size → b ≠ g → W'.heap[b]? = W.heap[b]?)
include he
theorem cell_off {x : Value} (hb : b ≠ g) (h : W.cell? ⟨b, i, none⟩ = some x) : W'.cell? ⟨b, i, none⟩ = some x := by
  have hl := block_lt h
  rw [← h]
  simp only [World.cell?, he b hl hb]
theorem SlS.off {A : Option Addr} {xs : List (Int × Int)} (h : SlS W A xs) (hp : Pbx W g) : SlS W' A xs := fun k hk => by
  obtain ⟨b, o, e, h1, h2⟩ := h k hk
  have hb := pbx_ne hp h1
  exact ⟨b, o, e, cell_off he hb h1, cell_off he hb h2⟩
theorem BdS.off {A : Option Addr} {L : List Bv} (h : BdS W A L) (hp : Pbx W g) : BdS W' A L := fun k hk => by
  obtain ⟨b, o, e, h1, h2, h3, h4⟩ := h k hk
  have hb := pbx_ne hp h2
  exact ⟨b, o, e, cell_off he hb h1, cell_off he hb h2, cell_off he hb h3, SlS.off he h4 hp⟩
theorem S4.off {A : Option Addr} {L : List Q4} (h : S4 W A L) (hp : Pbx W g) : S4 W' A L := fun k hk => by
  obtain ⟨b, o, e, h1, h2, h3, h4⟩ := h k hk
  have hb := pbx_ne hp h1
  exact ⟨b, o, e, cell_off he hb h1, cell_off he hb h2, cell_off he hb h3, cell_off he hb h4⟩
theorem SvS.off {A : Option Addr} {L : List Sv} (h : SvS W A L) (hp : Pbx W g) : SvS W' A L := fun k hk => by
  obtain ⟨b, o, e, h1, h2, h3, h4, h5⟩ := h k hk
  have hb := pbx_ne hp h1
  exact ⟨b, o, e, cell_off he hb h1, cell_off he hb h2, cell_off he hb h3, BdS.off he h4 hp, S4.off he h5 hp⟩
end
/-- A play's box q, whose list of scenes is a row of one's own. -/
structure Dq (B0 : World) (gq : Nat) (P0 : Value) (w0 : World) (L : List Sv) (n : Nat) (v : Value) (W : World) : Prop where
  he : ∀ b, b < B0.heap.size → b ≠ gq → W.heap[b]? = B0.heap[b]?
  q : W.heap[gq]? = some (.cells #[P0, v] 25 (0, 0))
  own : W.ownsRow B0.heap.size 38 3 v n (flt svc L)
  bel : Below w0.heap.size w0 W
  le : B0.heap.size ≤ W.heap.size
  lt : gq < B0.heap.size ∧ w0.heap.size ≤ gq
section
variable {B0 w0 W W' : World} {gq n m : Nat} {P0 v v' : Value} {L L' : List Sv}
theorem Dq.drew (h : Dq B0 gq P0 w0 L n v W) : Dq B0 gq P0 w0 L n v W.drew := ⟨h.he, h.q, h.own.drew, h.bel.drew, h.le, h.lt⟩
theorem Dq.alloc (h : Dq B0 gq P0 w0 L n v W) (o : Obj) : Dq B0 gq P0 w0 L n v (W.alloc o) :=
  ⟨fun b hb hn => (Below.heap_alloc W o b (Nat.lt_of_lt_of_le hb h.le)).trans (h.he b hb hn), blk_new h.q o, h.own.alloc o, h.bel.alloc h.bel.size o, Nat.le_trans h.le (below_new W o).size, h.lt⟩
theorem Dq.grow (h : Dq B0 gq P0 w0 L n v W) (hg : W.grownBy W' v.ownBlock) : (∀ b, b < B0.heap.size → W'.heap[b]? = W.heap[b]?) :=
  fun b hb => hg.block b (Nat.lt_of_lt_of_le hb h.le) (fun e => by have := (h.own.lt b e.symm).1; omega)
theorem Dq.put (h : Dq B0 gq P0 w0 L n v W) (hg : W.grownBy W' v.ownBlock) (own : W'.ownsRow B0.heap.size 38 3 v' m (flt svc L')) : Dq B0 gq P0 w0 L' m v' (W'.setCell ⟨gq, 1, none⟩ v') :=
  ⟨fun b hb hn => (Below.heap_setCell _ ⟨gq, 1, none⟩ v' b hn).trans ((h.grow hg b hb).trans (h.he b hb hn)),
   set_cells ((h.grow hg gq h.lt.1).trans h.q) 1 v', own_set own h.lt.1,
   (h.bel.grown hg h.bel.size (fun j e => by have := (h.own.lt j e).1; have := h.lt; omega)).setCell h.lt.2 _, Nat.le_trans h.le (by have := hg.size; simp; exact this), h.lt⟩
end
end Go.Proofs.Ytiffgcipdamngaa
