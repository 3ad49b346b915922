/-
  Cut, with what its slice can hold; pieces of slices.
-/
import Derived.Test.YtgjcmolocoijiaaZScnZX
import Derived.Test.YtgjcmolocoijiaaZGenE
namespace Go.Proofs.Ytgjcmolocoijiaa
open Go.RowKit Go.Sort
open Go.RowKit (Below)
set_option linter.unusedVariables false
set_option linter.unusedSimpArgs false
attribute [local go_sem] Oper.semAt_some

set_option maxRecDepth 100000 in
set_option maxHeartbeats 4000000 in
theorem cut_cap (A : Option Addr) (C : Nat) (L : List Bv) (h5 : L.length ≤ 9223372036854775807) (hc : ∀ k, k < L.length → (gdB L k).xs.length ≤ (gdB L k).C ∧ (gdB L k).C ≤ 9223372036854775807) (M : List Bv) (hM : cutl L = M) (w : World) (hl : BdS w A L) :
    Calls Try.prog 14 #[.slice A L.length C] w fun e_ w' => ∃ B, (∃ D, (M.length ≤ D ∧ D ≤ 9223372036854775807) ∧ e_ = .returned (.slice B M.length D)) ∧ BdS w' B M ∧ Below w.heap.size w w' := by
  have HL := Lib.hid hl
  clear hl
  have HC := Lib.hid hc
  clear hc
  obtain ⟨i1, hi1, hy0, hy1, hy2⟩ := info_of (show (Try.prog.info? 59).map (fun i => (i.zero, i.size, i.bytes)) = some (some (.agg #[.slice none 0 0, .int .i64 0, .int .i64 0]), 3, 40) by kernel_rfl)
  go_enter Try.func14, Try.ntmps14
  go_wp2_with fail
  go_loopw [3, 4] (fun v i wr => ∃ k : Nat, (k ≤ L.length ∧ k ≤ 6) ∧ i = .int .i64 k ∧ Hid (wr.ownsRow w.heap.size 59 3 v ((L.take k).map cutb).length (flt bvc ((L.take k).map cutb))) ∧ Below w.heap.size w wr) (fun _ i _ => 6 - (intOf i).toNat)
  case atStart => exact ⟨0, ⟨Nat.zero_le _, Nat.zero_le _⟩, rfl, World.ownsRow_nil _ _ _ _, Below.refl _ _⟩
  case round =>
    obtain ⟨k, ⟨hk, hk6⟩, rfl, HO, hW⟩ := hrel
    have w1_ : IntKind.i64.wrap ((k : Int) + 1) = (k : Int) + 1 := IntWalk.i64_in _ ⟨by omega, by omega⟩
    have w2_ : wrap64 ((k : Int) + 1) = (k : Int) + 1 := IntWalk.wrap64_in _ ⟨by omega, by omega⟩
    by_cases hlt : k < L.length ∧ k < 6
    · obtain ⟨hlt, hl6⟩ := hlt
      have e5 : ((k : Int) < (L.length : Int)) := by omega
      have e6 : ((k : Int) < 6) := by omega
      obtain ⟨b0, o0, rfl, e0, e1, e2, hsl⟩ := HL.out.below hW k hlt
      have HSL := Lib.hid hsl
      clear hsl
      obtain ⟨hc1, hc2⟩ := HC.out k hlt
      have HSN := Lib.hid (cut_snoc hlt)
      have HLN := Lib.hid (cut_len hk)
      have hm0 : k + 1 ≤ maxLen := by unfold maxLen; omega
      have hm0b : (k + 1) * 40 ≤ 140737488355328 := by omega
      generalize gdB L k = u at *
      obtain ⟨uA, uC, ux, ul, uh⟩ := u
      dsimp only at e0 e1 e2 HSL hc1 hc2
      replace HSN := Lib.hid (show (L.take k).map cutb ++ [(⟨uA, uC, ux.take 20, ul, uh⟩ : Bv)] = (L.take (k + 1)).map cutb from HSN.out)
      obtain ⟨n, hn⟩ : ∃ n, (ux.take 20).length = n := ⟨_, rfl⟩
      have hmin : min (ux.length : Int) 20 = (n : Int) := by rw [← hn, List.length_take]; omega
      have hmin2 : (if (20 : Int) < (ux.length : Int) then (20 : Int) else (ux.length : Int)) = (n : Int) := by rw [← hn, List.length_take]; split <;> omega
      have hnn : (n : Int) ≤ uC := by rw [← hn, List.length_take]; omega
      have hn0 : (0 : Int) ≤ n := by omega
      have hnn2 : n ≤ uC := by omega
      have hmz := map_zero uA uC
      have HN_ := Lib.hid hn
      clear hn
      have hb := below_new wr (.cells #[.slice uA ux.length uC, .int .i64 ul, .int .i64 uh] 59)
      have kz : (wr.alloc (.cells #[.slice uA ux.length uC, .int .i64 ul, .int .i64 uh] 59)).heap[wr.heap.size]? = some (.cells #[.slice uA ux.length uC, .int .i64 ul, .int .i64 uh] 59 (0, 0)) := World.alloc_heap_new _ _
      go_wp2_with fail
      generalize wr.alloc (.cells #[.slice uA ux.length uC, .int .i64 ul, .int .i64 uh] 59) = w1 at *
      have HLT := Lib.hid (fun j (hj : Value.ownBlock u3 = some j) => (HO.out.lt j hj).2)
      have HOW := Lib.hid (own_below HO.out hb)
      have HW1 := Lib.hid (on_below hW hb)
      clear HO hb hW e0 e1 e2
      obtain ⟨z0, z1, z2⟩ := cells3 kz
      generalize wr.heap.size = g5 at *
      have HKZ := Lib.hid kz
      clear kz
      have kp : ∀ {V : World}, Below w1.heap.size w1 V → V.cell? ⟨g5, 0, none⟩ = some (.slice uA ux.length uC) ∧ V.cell? ⟨g5, 1, none⟩ = some (.int .i64 ul) ∧ V.cell? ⟨g5, 2, none⟩ = some (.int .i64 uh) := fun h => ⟨keepc h z0, keepc h z1, keepc h z2⟩
      refine wp_region_held_drew (S := fun V => V.cell? ⟨g5, 0, none⟩ = some (.slice uA ux.length uC) ∧ V.cell? ⟨g5, 1, none⟩ = some (.int .i64 ul) ∧ V.cell? ⟨g5, 2, none⟩ = some (.int .i64 uh)) (by kernel_rfl) (kp (Below.refl _ _).drew) fun HL_ => ?_
      refine wpAnyH_take (i := 0) (v := u3) rfl (by kernel_rfl) (by kernel_rfl) (by kernel_rfl) (fun _ _ _ h => h) (Or.inl ⟨by kernel_rfl, ?_⟩) HL_ ?_
      · rintro Wl ⟨s0, s1, s2⟩
        go_simp
      simp only [Act.put, List.getElem_toArray, List.getElem_cons_succ, List.getElem_cons_zero, List.setIfInBounds_toArray, List.set_cons_zero, List.set_cons_succ]
      refine wpAnyH_take (i := 1) (v := .pointer (some ⟨g5, 0, none⟩)) rfl (by kernel_rfl) (by kernel_rfl) (by kernel_rfl) (fun _ _ _ h => h) (Or.inl ⟨by kernel_rfl, ?_⟩) HL_ ?_
      · rintro Wl ⟨s0, s1, s2⟩
        go_simp
      simp only [Act.put, List.getElem_toArray, List.getElem_cons_succ, List.getElem_cons_zero, List.setIfInBounds_toArray, List.set_cons_zero, List.set_cons_succ]
      refine wpAnyH_take (i := 2) (v := .slice uA ux.length uC) rfl (by kernel_rfl) (by kernel_rfl) (by kernel_rfl) (fun _ _ _ h => h) (Or.inl ⟨by kernel_rfl, ?_⟩) HL_ ?_
      · rintro Wl ⟨s0, s1, s2⟩
        go_simp
      simp only [Act.put, List.getElem_toArray, List.getElem_cons_succ, List.getElem_cons_zero, List.setIfInBounds_toArray, List.set_cons_zero, List.set_cons_succ]
      refine wpAnyH_take (i := 3) (v := .pointer (some ⟨g5, 0, none⟩)) rfl (by kernel_rfl) (by kernel_rfl) (by kernel_rfl) (fun _ _ _ h => h) (Or.inl ⟨by kernel_rfl, ?_⟩) HL_ ?_
      · rintro Wl ⟨s0, s1, s2⟩
        go_simp
      simp only [Act.put, List.getElem_toArray, List.getElem_cons_succ, List.getElem_cons_zero, List.setIfInBounds_toArray, List.set_cons_zero, List.set_cons_succ]
      refine wpAnyH_take (i := 4) (v := .slice uA ux.length uC) rfl (by kernel_rfl) (by kernel_rfl) (by kernel_rfl) (fun _ _ _ h => h) (Or.inl ⟨by kernel_rfl, ?_⟩) HL_ ?_
      · rintro Wl ⟨s0, s1, s2⟩
        go_simp
      simp only [Act.put, List.getElem_toArray, List.getElem_cons_succ, List.getElem_cons_zero, List.setIfInBounds_toArray, List.set_cons_zero, List.set_cons_succ]
      refine wpAnyH_take (i := 5) (v := .int .i64 ux.length) rfl (by kernel_rfl) (by kernel_rfl) (by kernel_rfl) (fun _ _ _ h => h) (Or.inl ⟨by kernel_rfl, ?_⟩) HL_ ?_
      · rintro Wl ⟨s0, s1, s2⟩
        go_simp
      simp only [Act.put, List.getElem_toArray, List.getElem_cons_succ, List.getElem_cons_zero, List.setIfInBounds_toArray, List.set_cons_zero, List.set_cons_succ]
      refine wpAnyH_take (i := 6) (v := .int .i64 n) rfl (by kernel_rfl) (by kernel_rfl) (by kernel_rfl) (fun _ _ _ h => h) (Or.inl ⟨by kernel_rfl, ?_⟩) HL_ ?_
      · rintro Wl ⟨s0, s1, s2⟩
        go_simp
      simp only [Act.put, List.getElem_toArray, List.getElem_cons_succ, List.getElem_cons_zero, List.setIfInBounds_toArray, List.set_cons_zero, List.set_cons_succ]
      refine wpAnyH_take (i := 7) (v := .slice uA n uC) rfl (by kernel_rfl) (by kernel_rfl) (by kernel_rfl) (fun _ _ _ h => h) (Or.inl ⟨by kernel_rfl, ?_⟩) HL_ ?_
      · rintro Wl ⟨s0, s1, s2⟩
        go_simp
      simp only [Act.put, List.getElem_toArray, List.getElem_cons_succ, List.getElem_cons_zero, List.setIfInBounds_toArray, List.set_cons_zero, List.set_cons_succ]
      refine wpAnyH_take (i := 8) (v := .pointer (some ⟨g5, 1, none⟩)) rfl (by kernel_rfl) (by kernel_rfl) (by kernel_rfl) (fun _ _ _ h => h) (Or.inl ⟨by kernel_rfl, ?_⟩) HL_ ?_
      · rintro Wl ⟨s0, s1, s2⟩
        go_simp
      simp only [Act.put, List.getElem_toArray, List.getElem_cons_succ, List.getElem_cons_zero, List.setIfInBounds_toArray, List.set_cons_zero, List.set_cons_succ]
      refine wpAnyH_take (i := 9) (v := .int .i64 ul) rfl (by kernel_rfl) (by kernel_rfl) (by kernel_rfl) (fun _ _ _ h => h) (Or.inl ⟨by kernel_rfl, ?_⟩) HL_ ?_
      · rintro Wl ⟨s0, s1, s2⟩
        go_simp
      simp only [Act.put, List.getElem_toArray, List.getElem_cons_succ, List.getElem_cons_zero, List.setIfInBounds_toArray, List.set_cons_zero, List.set_cons_succ]
      refine wpAnyH_take (i := 10) (v := .pointer (some ⟨g5, 2, none⟩)) rfl (by kernel_rfl) (by kernel_rfl) (by kernel_rfl) (fun _ _ _ h => h) (Or.inl ⟨by kernel_rfl, ?_⟩) HL_ ?_
      · rintro Wl ⟨s0, s1, s2⟩
        go_simp
      simp only [Act.put, List.getElem_toArray, List.getElem_cons_succ, List.getElem_cons_zero, List.setIfInBounds_toArray, List.set_cons_zero, List.set_cons_succ]
      refine wpAnyH_take (i := 11) (v := .int .i64 uh) rfl (by kernel_rfl) (by kernel_rfl) (by kernel_rfl) (fun _ _ _ h => h) (Or.inl ⟨by kernel_rfl, ?_⟩) HL_ ?_
      · rintro Wl ⟨s0, s1, s2⟩
        go_simp
      simp only [Act.put, List.getElem_toArray, List.getElem_cons_succ, List.getElem_cons_zero, List.setIfInBounds_toArray, List.set_cons_zero, List.set_cons_succ]
      refine wpAnyH_take (i := 12) (v := .agg #[.slice uA n uC, .int .i64 ul, .int .i64 uh]) rfl (by kernel_rfl) (by kernel_rfl) (by kernel_rfl) (fun _ _ _ h => h) (Or.inl ⟨by kernel_rfl, ?_⟩) HL_ ?_
      · rintro Wl ⟨s0, s1, s2⟩
        go_simp
      simp only [Act.put, List.getElem_toArray, List.getElem_cons_succ, List.getElem_cons_zero, List.setIfInBounds_toArray, List.set_cons_zero, List.set_cons_succ]
      refine wpAnyH_ready (rs := [13]) (by kernel_rfl) (by simp) ?_
      refine AllReadyH.cons (o := _) rfl (fun K hK => ?_) AllReadyH.nil
      go_simp
      have hb2 : Below w1.heap.size w1 (w1.alloc (.cells #[.slice uA n uC, .int .i64 ul, .int .i64 uh] 59)).drew := (below_new w1 (.cells #[.slice uA n uC, .int .i64 ul, .int .i64 uh] 59)).drew
      refine hK.out _ _ (kp hb2) fun HL_ => ?_
      clear hK K
      have HSR := src_new w1 #[.slice uA n uC, .int .i64 ul, .int .i64 uh] 59
      refine wpAnyH_ready (rs := [14]) (by kernel_rfl) (by simp) ?_
      refine AllReadyH.cons (o := _) rfl (fun K hK => ?_) AllReadyH.nil
      refine step_app _ (by rfl) _ _ _ (by rfl) w.heap.size 59 i1 _ 3 40 Try.underlying22 hi1 hy0 hy1 hy2 rfl (by decide) _ _ _ (by rfl) (HOW.out.alloc _).drew (some ⟨w1.heap.size, 0, none⟩) 1 1 [.slice uA n uC, .int .i64 ul, .int .i64 uh] (by rfl) rfl HSR (by intro u_ hu_; simp only [List.mem_cons, List.not_mem_nil, or_false] at hu_; rcases hu_ with rfl | rfl | rfl <;> rfl) (by rw [HLN.out]; exact hm0) (by rw [HLN.out]; exact hm0b) (Nat.le_trans HW1.out.size hb2.size) ?_
      intro v1 uw1 own1 gr1
      have hb3 : Below w.heap.size w uw1 := app_below (on_below HW1.out hb2) (Nat.le_trans HW1.out.size hb2.size) (HOW.out.alloc _).drew (Nat.le_refl _) gr1
      have kz2 : uw1.heap[g5]? = some (.cells #[.slice uA ux.length uC, .int .i64 ul, .int .i64 uh] 59 (0, 0)) := (gr1.block g5 (Array.getElem?_eq_some_iff.1 (blk_on HKZ.out hb2)).1 (fun e => by have := HLT.out g5 e.symm; omega)).trans (blk_on HKZ.out hb2)
      refine hK.out _ _ (cells3 kz2) fun HL_ => ?_
      clear hK K kz2 gr1
      refine wpAnyH_take (i := 15) (v := v1) rfl (by kernel_rfl) (by kernel_rfl) (by kernel_rfl) (fun _ _ _ h => h) (Or.inl ⟨by kernel_rfl, ?_⟩) HL_ ?_
      · rintro Wl ⟨s0, s1, s2⟩
        go_simp
      simp only [Act.put, List.getElem_toArray, List.getElem_cons_succ, List.getElem_cons_zero, List.setIfInBounds_toArray, List.set_cons_zero, List.set_cons_succ]
      refine wpAnyH_done (by kernel_rfl) ?_ _
      clear HL_ kp z0 z1 z2 HKZ HLT HSR hmin hmin2 hnn hn0 hnn2 hmz hc1 hc2 HOW HW1 hb2
      have own2 : uw1.ownsRow w.heap.size 59 3 v1 ((L.take (k + 1)).map cutb).length (flt bvc ((L.take (k + 1)).map cutb)) := by
        rw [← HSN.out]
        have h := own1
        rw [List.length_append, ← flt_snoc]
        unfold bvc
        dsimp only
        rw [HN_.out]
        exact h
      clear own1 HSN HLN HN_ hm0 hm0b
      have HO2 := Lib.hid own2
      clear own2
      go_wp2_with fail
      go_roundw
      case rel => exact ⟨k + 1, ⟨hlt, hl6⟩, int_of (by first | rfl | exact w1_ | exact w2_), HO2.out, hb3⟩
      case measure => simp [intOf, w1_, w2_]; clear w1_ w2_; omega
    · have HF := Lib.hid (show (L.take k).map cutb = M from by
        rw [← hM]
        unfold cutl
        by_cases h6 : k < 6
        · have hk2 : k = L.length := by have := fun h => hlt ⟨h, h6⟩; omega
          subst hk2
          rw [List.take_of_length_le (Nat.le_refl _), List.take_of_length_le (by omega)]
        · have hk2 : k = 6 := by omega
          subst hk2; rfl)
      have HS := Lib.hid (show ∀ i, i < ((L.take k).map cutb).length → SlS wr (gdB ((L.take k).map cutb) i).A (gdB ((L.take k).map cutb) i).xs from fun i hi => by
        rw [cut_len hk] at hi
        obtain ⟨_, _, _, _, _, _, hs⟩ := HL.out.below hW i (by omega)
        rw [cut_at hi hk]
        exact sls_take hs 20)
      have e5 : ¬ ((k : Int) < (L.length : Int)) ∨ ((k : Int) < (L.length : Int) ∧ ¬ ((k : Int) < 6)) := by omega
      obtain ⟨B, D, rfl, _, hd1, hd2, hxs⟩ := own_bds HO.out HS.out
      rw [HF.out] at hxs hd1 ⊢
      have HD := Lib.hid (And.intro hd1 (show D ≤ 9223372036854775807 from hd2))
      clear hd1 hd2
      clear HO HS HF hlt
      rcases e5 with e5 | ⟨e5, e6⟩
      all_goals go_wp2_with fail
      all_goals go_ret
      all_goals exact ⟨B, ⟨D, HD.out, rfl⟩, hxs, hW⟩
/-- The slice's address behind k bodies. -/
def adr (A : Option Addr) (C k n : Nat) : Option Addr := if C - k = 0 then A else A.map fun x => x.add (k * n)
theorem BdS.drop {w : World} {A : Option Addr} {L : List Bv} (h : BdS w A L) (k C : Nat) (hC : L.length ≤ C) : BdS w (adr A C k 3) (L.drop k) := fun j hj => by
  rw [List.length_drop] at hj
  obtain ⟨b, o, rfl, h1, h2, h3, h4⟩ := h (k + j) (by omega)
  have e : gdB (L.drop k) j = gdB L (k + j) := by unfold gdB; rw [List.getD_eq_getElem?_getD, List.getD_eq_getElem?_getD, List.getElem?_drop]
  have e2 : o + (k + j) * 3 = o + k * 3 + j * 3 := by omega
  rw [e2] at h1 h2 h3
  unfold adr
  rw [if_neg (by omega), e]
  refine ⟨b, o + k * 3, ?_, h1, h2, h3, h4⟩
  by_cases h0 : k * 3 = 0
  · simp [Addr.add, h0]
  · simp [Addr.add, h0]
end Go.Proofs.Ytgjcmolocoijiaa
