/-
  The reference's Cut and Same. The reference's Few. Pieces and bodies that come in.
-/
import Derived.Test.YtiffgcipdamngaaZScnZG
import Derived.Test.YtiffgcipdamngaaZGenE
import Derived.Deep.DeepCutAuto
import Derived.Deep.Slices
import Derived.Deep.Strs
import Derived.Lib.SmallJoins
namespace Go.Proofs.Ytiffgcipdamngaa
open Go.RowKit Go.Sort
open Go.RowKit (Below)
set_option linter.unusedVariables false
set_option linter.unusedSimpArgs false
attribute [local go_sem] Oper.semAt_some



theorem src_new (w : World) (cs : Array Value) (t : TypeId) : Src (w.alloc (.cells cs t)) (some ⟨w.heap.size, 0, none⟩) cs.toList := fun j u hu => ⟨_, rfl, World.news_of_block (World.alloc_heap_new w _) j u hu⟩
/-- A body with at most 20 corners. -/
def cutb (b : Bv) : Bv := ⟨b.A, b.C, b.xs.take 20, b.lo, b.hi⟩
def cutl (L : List Bv) : List Bv := (L.take 6).map cutb
theorem cut_snoc {L : List Bv} {k : Nat} (hk : k < L.length) : (L.take k).map cutb ++ [cutb (gdB L k)] = (L.take (k + 1)).map cutb := by
  rw [List.take_succ_eq_append_getElem hk, List.map_append, gdB_at hk]; rfl
theorem cut_len {L : List Bv} {k : Nat} (hk : k ≤ L.length) : ((L.take k).map cutb).length = k := by rw [List.length_map, List.length_take]; omega
theorem cut_at {L : List Bv} {k j : Nat} (hj : j < k) (hk : k ≤ L.length) : gdB ((L.take k).map cutb) j = cutb (gdB L j) := by
  rw [gdB_at (by rw [cut_len hk]; exact hj), gdB_at (by omega)]; simp
theorem sls_take {w : World} {A : Option Addr} {xs : List (Int × Int)} (h : SlS w A xs) (n : Nat) : SlS w A (xs.take n) := fun i hi => by
  have h1 : i < xs.length := by rw [List.length_take] at hi; omega
  have e : gdS (xs.take n) i = gdS xs i := by
    unfold gdS
    rw [List.getD_eq_getElem?_getD, List.getD_eq_getElem?_getD, List.getElem?_take, if_pos (by rw [List.length_take] at hi; omega)]
  rw [e]
  exact h i h1
theorem map_zero (A : Option Addr) (C : Nat) : (if C = 0 then A else A.map fun x => x.add 0) = A := by
  split
  · rfl
  · cases A with
    | none => rfl
    | some a => simp [Addr.add] <;> (obtain ⟨b, o, s⟩ := a; cases s <;> rfl)
set_option maxRecDepth 100000 in
set_option maxHeartbeats 4000000 in
theorem cut_is (A : Option Addr) (C : Nat) (L : List Bv) (h5 : L.length ≤ 9223372036854775807) (hc : ∀ k, k < L.length → (gdB L k).xs.length ≤ (gdB L k).C ∧ (gdB L k).C ≤ 9223372036854775807) (M : List Bv) (hM : cutl L = M) (w : World) (hl : BdS w A L) :
    Calls Try.prog 6 #[.slice A L.length C] w fun e_ w' => ∃ B, (∃ D, e_ = .returned (.slice B M.length D)) ∧ BdS w' B M ∧ Below w.heap.size w w' := by
  have HL := Lib.hid hl
  clear hl
  have HC := Lib.hid hc
  clear hc
  obtain ⟨i1, hi1, hy0, hy1, hy2⟩ := info_of (show (Try.prog.info? 46).map (fun i => (i.zero, i.size, i.bytes)) = some (some (.agg #[.slice none 0 0, .int .i64 0, .int .i64 0]), 3, 40) by kernel_rfl)
  go_enter Try.func6, Try.ntmps6
  go_wp2_with fail
  go_loopw [3, 4] (fun v i wr => ∃ k : Nat, (k ≤ L.length ∧ k ≤ 6) ∧ i = .int .i64 k ∧ Hid (wr.ownsRow w.heap.size 46 3 v ((L.take k).map cutb).length (flt bvc ((L.take k).map cutb))) ∧ Below w.heap.size w wr) (fun _ i _ => 6 - (intOf i).toNat)
  case atStart => exact ⟨0, ⟨Nat.zero_le _, Nat.zero_le _⟩, rfl, World.ownsRow_nil _ _ _ _, Below.refl _ _⟩
  case round =>
    obtain ⟨k, ⟨hk, hk6⟩, rfl, HO, hW⟩ := hrel
    have w1_ : IntKind.i64.wrap ((k : Int) + 1) = (k : Int) + 1 := IntWalk.i64_in _ ⟨by omega, by omega⟩
    have w2_ : wrap64 ((k : Int) + 1) = (k : Int) + 1 := IntWalk.wrap64_in _ ⟨by omega, by omega⟩
    by_cases hlt : k < L.length ∧ k < 6
    · obtain ⟨hlt, hl6⟩ := hlt
      have e5 : ((k : Int) < (L.length : Int)) := by omega
      have e6 : ((k : Int) < 6) := by omega
      obtain ⟨b0, o0, rfl, e0, e1, e2, hsl⟩ := HL.out.below hW k hlt
      have HSL := Lib.hid hsl
      clear hsl
      obtain ⟨hc1, hc2⟩ := HC.out k hlt
      have HSN := Lib.hid (cut_snoc hlt)
      have HLN := Lib.hid (cut_len hk)
      have hm0 : k + 1 ≤ maxLen := by unfold maxLen; omega
      have hm0b : (k + 1) * 40 ≤ 140737488355328 := by omega
      generalize gdB L k = u at *
      obtain ⟨uA, uC, ux, ul, uh⟩ := u
      dsimp only at e0 e1 e2 HSL hc1 hc2
      replace HSN := Lib.hid (show (L.take k).map cutb ++ [(⟨uA, uC, ux.take 20, ul, uh⟩ : Bv)] = (L.take (k + 1)).map cutb from HSN.out)
      obtain ⟨n, hn⟩ : ∃ n, (ux.take 20).length = n := ⟨_, rfl⟩
      have hmin : min (ux.length : Int) 20 = (n : Int) := by rw [← hn, List.length_take]; omega
      have hmin2 : (if (20 : Int) < (ux.length : Int) then (20 : Int) else (ux.length : Int)) = (n : Int) := by rw [← hn, List.length_take]; split <;> omega
      have hnn : (n : Int) ≤ uC := by rw [← hn, List.length_take]; omega
      have hn0 : (0 : Int) ≤ n := by omega
      have hnn2 : n ≤ uC := by omega
      have hmz := map_zero uA uC
      have HN_ := Lib.hid hn
      clear hn
      have hb := below_new wr (.cells #[.slice uA ux.length uC, .int .i64 ul, .int .i64 uh] 46)
      have kz : (wr.alloc (.cells #[.slice uA ux.length uC, .int .i64 ul, .int .i64 uh] 46)).heap[wr.heap.size]? = some (.cells #[.slice uA ux.length uC, .int .i64 ul, .int .i64 uh] 46 (0, 0)) := World.alloc_heap_new _ _
      go_wp2_with fail
      generalize wr.alloc (.cells #[.slice uA ux.length uC, .int .i64 ul, .int .i64 uh] 46) = w1 at *
      have HLT := Lib.hid (fun j (hj : Value.ownBlock u3 = some j) => (HO.out.lt j hj).2)
      have HOW := Lib.hid (own_below HO.out hb)
      have HW1 := Lib.hid (on_below hW hb)
      clear HO hb hW e0 e1 e2
      obtain ⟨z0, z1, z2⟩ := cells3 kz
      generalize wr.heap.size = g5 at *
      have HKZ := Lib.hid kz
      clear kz
      have kp : ∀ {V : World}, Below w1.heap.size w1 V → V.cell? ⟨g5, 0, none⟩ = some (.slice uA ux.length uC) ∧ V.cell? ⟨g5, 1, none⟩ = some (.int .i64 ul) ∧ V.cell? ⟨g5, 2, none⟩ = some (.int .i64 uh) := fun h => ⟨keepc h z0, keepc h z1, keepc h z2⟩
      refine wp_region_held_drew (S := fun V => V.cell? ⟨g5, 0, none⟩ = some (.slice uA ux.length uC) ∧ V.cell? ⟨g5, 1, none⟩ = some (.int .i64 ul) ∧ V.cell? ⟨g5, 2, none⟩ = some (.int .i64 uh)) (by kernel_rfl) (kp (Below.refl _ _).drew) fun HL_ => ?_
      refine wpAnyH_take (i := 0) (v := u3) rfl (by kernel_rfl) (by kernel_rfl) (by kernel_rfl) (fun _ _ _ h => h) (Or.inl ⟨by kernel_rfl, ?_⟩) HL_ ?_
      · rintro Wl ⟨s0, s1, s2⟩
        go_simp
      simp only [Act.put, List.getElem_toArray, List.getElem_cons_succ, List.getElem_cons_zero, List.setIfInBounds_toArray, List.set_cons_zero, List.set_cons_succ]
      refine wpAnyH_take (i := 1) (v := .pointer (some ⟨g5, 0, none⟩)) rfl (by kernel_rfl) (by kernel_rfl) (by kernel_rfl) (fun _ _ _ h => h) (Or.inl ⟨by kernel_rfl, ?_⟩) HL_ ?_
      · rintro Wl ⟨s0, s1, s2⟩
        go_simp
      simp only [Act.put, List.getElem_toArray, List.getElem_cons_succ, List.getElem_cons_zero, List.setIfInBounds_toArray, List.set_cons_zero, List.set_cons_succ]
      refine wpAnyH_take (i := 2) (v := .slice uA ux.length uC) rfl (by kernel_rfl) (by kernel_rfl) (by kernel_rfl) (fun _ _ _ h => h) (Or.inl ⟨by kernel_rfl, ?_⟩) HL_ ?_
      · rintro Wl ⟨s0, s1, s2⟩
        go_simp
      simp only [Act.put, List.getElem_toArray, List.getElem_cons_succ, List.getElem_cons_zero, List.setIfInBounds_toArray, List.set_cons_zero, List.set_cons_succ]
      refine wpAnyH_take (i := 3) (v := .pointer (some ⟨g5, 0, none⟩)) rfl (by kernel_rfl) (by kernel_rfl) (by kernel_rfl) (fun _ _ _ h => h) (Or.inl ⟨by kernel_rfl, ?_⟩) HL_ ?_
      · rintro Wl ⟨s0, s1, s2⟩
        go_simp
      simp only [Act.put, List.getElem_toArray, List.getElem_cons_succ, List.getElem_cons_zero, List.setIfInBounds_toArray, List.set_cons_zero, List.set_cons_succ]
      refine wpAnyH_take (i := 4) (v := .slice uA ux.length uC) rfl (by kernel_rfl) (by kernel_rfl) (by kernel_rfl) (fun _ _ _ h => h) (Or.inl ⟨by kernel_rfl, ?_⟩) HL_ ?_
      · rintro Wl ⟨s0, s1, s2⟩
        go_simp
      simp only [Act.put, List.getElem_toArray, List.getElem_cons_succ, List.getElem_cons_zero, List.setIfInBounds_toArray, List.set_cons_zero, List.set_cons_succ]
      refine wpAnyH_take (i := 5) (v := .int .i64 ux.length) rfl (by kernel_rfl) (by kernel_rfl) (by kernel_rfl) (fun _ _ _ h => h) (Or.inl ⟨by kernel_rfl, ?_⟩) HL_ ?_
      · rintro Wl ⟨s0, s1, s2⟩
        go_simp
      simp only [Act.put, List.getElem_toArray, List.getElem_cons_succ, List.getElem_cons_zero, List.setIfInBounds_toArray, List.set_cons_zero, List.set_cons_succ]
      refine wpAnyH_take (i := 6) (v := .int .i64 n) rfl (by kernel_rfl) (by kernel_rfl) (by kernel_rfl) (fun _ _ _ h => h) (Or.inl ⟨by kernel_rfl, ?_⟩) HL_ ?_
      · rintro Wl ⟨s0, s1, s2⟩
        go_simp
      simp only [Act.put, List.getElem_toArray, List.getElem_cons_succ, List.getElem_cons_zero, List.setIfInBounds_toArray, List.set_cons_zero, List.set_cons_succ]
      refine wpAnyH_take (i := 7) (v := .slice uA n uC) rfl (by kernel_rfl) (by kernel_rfl) (by kernel_rfl) (fun _ _ _ h => h) (Or.inl ⟨by kernel_rfl, ?_⟩) HL_ ?_
      · rintro Wl ⟨s0, s1, s2⟩
        go_simp
      simp only [Act.put, List.getElem_toArray, List.getElem_cons_succ, List.getElem_cons_zero, List.setIfInBounds_toArray, List.set_cons_zero, List.set_cons_succ]
      refine wpAnyH_take (i := 8) (v := .pointer (some ⟨g5, 1, none⟩)) rfl (by kernel_rfl) (by kernel_rfl) (by kernel_rfl) (fun _ _ _ h => h) (Or.inl ⟨by kernel_rfl, ?_⟩) HL_ ?_
      · rintro Wl ⟨s0, s1, s2⟩
        go_simp
      simp only [Act.put, List.getElem_toArray, List.getElem_cons_succ, List.getElem_cons_zero, List.setIfInBounds_toArray, List.set_cons_zero, List.set_cons_succ]
      refine wpAnyH_take (i := 9) (v := .int .i64 ul) rfl (by kernel_rfl) (by kernel_rfl) (by kernel_rfl) (fun _ _ _ h => h) (Or.inl ⟨by kernel_rfl, ?_⟩) HL_ ?_
      · rintro Wl ⟨s0, s1, s2⟩
        go_simp
      simp only [Act.put, List.getElem_toArray, List.getElem_cons_succ, List.getElem_cons_zero, List.setIfInBounds_toArray, List.set_cons_zero, List.set_cons_succ]
      refine wpAnyH_take (i := 10) (v := .pointer (some ⟨g5, 2, none⟩)) rfl (by kernel_rfl) (by kernel_rfl) (by kernel_rfl) (fun _ _ _ h => h) (Or.inl ⟨by kernel_rfl, ?_⟩) HL_ ?_
      · rintro Wl ⟨s0, s1, s2⟩
        go_simp
      simp only [Act.put, List.getElem_toArray, List.getElem_cons_succ, List.getElem_cons_zero, List.setIfInBounds_toArray, List.set_cons_zero, List.set_cons_succ]
      refine wpAnyH_take (i := 11) (v := .int .i64 uh) rfl (by kernel_rfl) (by kernel_rfl) (by kernel_rfl) (fun _ _ _ h => h) (Or.inl ⟨by kernel_rfl, ?_⟩) HL_ ?_
      · rintro Wl ⟨s0, s1, s2⟩
        go_simp
      simp only [Act.put, List.getElem_toArray, List.getElem_cons_succ, List.getElem_cons_zero, List.setIfInBounds_toArray, List.set_cons_zero, List.set_cons_succ]
      refine wpAnyH_take (i := 12) (v := .agg #[.slice uA n uC, .int .i64 ul, .int .i64 uh]) rfl (by kernel_rfl) (by kernel_rfl) (by kernel_rfl) (fun _ _ _ h => h) (Or.inl ⟨by kernel_rfl, ?_⟩) HL_ ?_
      · rintro Wl ⟨s0, s1, s2⟩
        go_simp
      simp only [Act.put, List.getElem_toArray, List.getElem_cons_succ, List.getElem_cons_zero, List.setIfInBounds_toArray, List.set_cons_zero, List.set_cons_succ]
      refine wpAnyH_ready (rs := [13]) (by kernel_rfl) (by simp) ?_
      refine AllReadyH.cons (o := _) rfl (fun K hK => ?_) AllReadyH.nil
      go_simp
      have hb2 : Below w1.heap.size w1 (w1.alloc (.cells #[.slice uA n uC, .int .i64 ul, .int .i64 uh] 46)).drew := (below_new w1 (.cells #[.slice uA n uC, .int .i64 ul, .int .i64 uh] 46)).drew
      refine hK.out _ _ (kp hb2) fun HL_ => ?_
      clear hK K
      have HSR := src_new w1 #[.slice uA n uC, .int .i64 ul, .int .i64 uh] 46
      refine wpAnyH_ready (rs := [14]) (by kernel_rfl) (by simp) ?_
      refine AllReadyH.cons (o := _) rfl (fun K hK => ?_) AllReadyH.nil
      refine step_app _ (by rfl) _ _ _ (by rfl) w.heap.size 46 i1 _ 3 40 Try.underlying22 hi1 hy0 hy1 hy2 rfl (by decide) _ _ _ (by rfl) (HOW.out.alloc _).drew (some ⟨w1.heap.size, 0, none⟩) 1 1 [.slice uA n uC, .int .i64 ul, .int .i64 uh] (by rfl) rfl HSR (by intro u_ hu_; simp only [List.mem_cons, List.not_mem_nil, or_false] at hu_; rcases hu_ with rfl | rfl | rfl <;> rfl) (by rw [HLN.out]; exact hm0) (by rw [HLN.out]; exact hm0b) (Nat.le_trans HW1.out.size hb2.size) ?_
      intro v1 uw1 own1 gr1
      have hb3 : Below w.heap.size w uw1 := app_below (on_below HW1.out hb2) (Nat.le_trans HW1.out.size hb2.size) (HOW.out.alloc _).drew (Nat.le_refl _) gr1
      have kz2 : uw1.heap[g5]? = some (.cells #[.slice uA ux.length uC, .int .i64 ul, .int .i64 uh] 46 (0, 0)) := (gr1.block g5 (Array.getElem?_eq_some_iff.1 (blk_on HKZ.out hb2)).1 (fun e => by have := HLT.out g5 e.symm; omega)).trans (blk_on HKZ.out hb2)
      refine hK.out _ _ (cells3 kz2) fun HL_ => ?_
      clear hK K kz2 gr1
      refine wpAnyH_take (i := 15) (v := v1) rfl (by kernel_rfl) (by kernel_rfl) (by kernel_rfl) (fun _ _ _ h => h) (Or.inl ⟨by kernel_rfl, ?_⟩) HL_ ?_
      · rintro Wl ⟨s0, s1, s2⟩
        go_simp
      simp only [Act.put, List.getElem_toArray, List.getElem_cons_succ, List.getElem_cons_zero, List.setIfInBounds_toArray, List.set_cons_zero, List.set_cons_succ]
      refine wpAnyH_done (by kernel_rfl) ?_ _
      clear HL_ kp z0 z1 z2 HKZ HLT HSR hmin hmin2 hnn hn0 hnn2 hmz hc1 hc2 HOW HW1 hb2
      have own2 : uw1.ownsRow w.heap.size 46 3 v1 ((L.take (k + 1)).map cutb).length (flt bvc ((L.take (k + 1)).map cutb)) := by
        rw [← HSN.out]
        have h := own1
        rw [List.length_append, ← flt_snoc]
        unfold bvc
        dsimp only
        rw [HN_.out]
        exact h
      clear own1 HSN HLN HN_ hm0 hm0b
      have HO2 := Lib.hid own2
      clear own2
      go_wp2_with fail
      go_roundw
      case rel => exact ⟨k + 1, ⟨hlt, hl6⟩, int_of (by first | rfl | exact w1_ | exact w2_), HO2.out, hb3⟩
      case measure => simp [intOf, w1_, w2_]; clear w1_ w2_; omega
    · have HF := Lib.hid (show (L.take k).map cutb = M from by
        rw [← hM]
        unfold cutl
        by_cases h6 : k < 6
        · have hk2 : k = L.length := by have := fun h => hlt ⟨h, h6⟩; omega
          subst hk2
          rw [List.take_of_length_le (Nat.le_refl _), List.take_of_length_le (by omega)]
        · have hk2 : k = 6 := by omega
          subst hk2; rfl)
      have HS := Lib.hid (show ∀ i, i < ((L.take k).map cutb).length → SlS wr (gdB ((L.take k).map cutb) i).A (gdB ((L.take k).map cutb) i).xs from fun i hi => by
        rw [cut_len hk] at hi
        obtain ⟨_, _, _, _, _, _, hs⟩ := HL.out.below hW i (by omega)
        rw [cut_at hi hk]
        exact sls_take hs 20)
      have e5 : ¬ ((k : Int) < (L.length : Int)) ∨ ((k : Int) < (L.length : Int) ∧ ¬ ((k : Int) < 6)) := by omega
      obtain ⟨B, D, rfl, _, _, _, hxs⟩ := own_bds HO.out HS.out
      rw [HF.out] at hxs ⊢
      clear HO HS HF hlt
      rcases e5 with e5 | ⟨e5, e6⟩
      all_goals go_wp2_with fail
      all_goals go_ret
      all_goals exact ⟨B, ⟨D, rfl⟩, hxs, hW⟩
end Go.Proofs.Ytiffgcipdamngaa

namespace Go.Proofs.Ytiffgcipdamngaa
open Go.RowKit Go.Sort
open Go.RowKit (Below)
set_option linter.unusedVariables false
set_option linter.unusedSimpArgs false
attribute [local go_sem] Oper.semAt_some

/-- A scene with at most 6 bodies and 8 targets. -/
def fewv (s : Sv) : Sv := ⟨s.m, s.BA, s.BC, s.bs.take 6, s.TA, s.TC, s.ts.take 8⟩
def fewl (N : List Sv) : List Sv := (N.take 4).map fewv
def svc (s : Sv) : List Value := [.int .i64 s.m, .slice s.BA s.bs.length s.BC, .slice s.TA s.ts.length s.TC]
theorem svc_len (s : Sv) : (svc s).length = 3 := rfl
theorem svc_at {L : List Sv} {k : Nat} (hk : k < L.length) : (flt svc L)[k * 3]? = some (.int .i64 (gdV L k).m) ∧ (flt svc L)[k * 3 + 1]? = some (.slice (gdV L k).BA (gdV L k).bs.length (gdV L k).BC) ∧ (flt svc L)[k * 3 + 2]? = some (.slice (gdV L k).TA (gdV L k).ts.length (gdV L k).TC) := by
  have h0 := flt_at svc_len hk (show 0 < 3 by omega)
  have h1 := flt_at svc_len hk (show 1 < 3 by omega)
  have h2 := flt_at svc_len hk (show 2 < 3 by omega)
  rw [← gdV_at hk] at h0 h1 h2
  exact ⟨h0, h1, h2⟩
theorem own_svs {w : World} {base n : Nat} {e : TypeId} {v : Value} {L : List Sv} (h : w.ownsRow base e 3 v n (flt svc L)) (hs : ∀ k, k < L.length → BdS w (gdV L k).BA (gdV L k).bs ∧ S4 w (gdV L k).TA (gdV L k).ts) : ∃ A C, v = .slice A L.length C ∧ SvS w A L := by
  rcases h.2 with ⟨rfl, rfl⟩ | ⟨g, cap, cur, rfl, hb, hg, hn, hm, hsz, ht⟩
  · have hx : L = [] := by
      have := h.1
      rw [flt_len svc_len] at this
      exact List.eq_nil_of_length_eq_zero (by omega)
    subst hx
    exact ⟨none, 0, rfl, SvS.nil _ _⟩
  · have hl : n = L.length := by have := h.1; rw [flt_len svc_len] at this; omega
    subst hl
    refine ⟨some ⟨g, 0, none⟩, cap, rfl, fun k hk => ?_⟩
    have hc : ∀ i u, i < 3 → (flt svc L)[k * 3 + i]? = some u → w.cell? ⟨g, 0 + k * 3 + i, none⟩ = some u := fun i u hi hu => by
      have h2 : w.ownsRow base e 3 (.slice (some ⟨g, 0, none⟩) L.length cap) L.length (flt svc L) := ⟨h.1, .inr ⟨g, cap, cur, rfl, hb, hg, hn, hm, hsz, ht⟩⟩
      rw [Nat.zero_add, World.ownsRow.cellAt h2 (k * 3 + i) (by omega)]
      exact hu
    obtain ⟨e0, e1, e2⟩ := svc_at hk
    exact ⟨g, 0, rfl, hc 0 _ (by omega) e0, hc 1 _ (by omega) e1, hc 2 _ (by omega) e2, hs k hk⟩
theorem own_set {W : World} {b n size g i : Nat} {e : TypeId} {v u : Value} {xs : List Value} (h : W.ownsRow b e size v n xs) (hg : g < b) : (W.setCell ⟨g, i, none⟩ u).ownsRow b e size v n xs := by
  refine ⟨h.1, ?_⟩
  rcases h.2 with h0 | ⟨j, cap, cur, hv, hbg, hgg, h3⟩
  · exact .inl h0
  · refine .inr ⟨j, cap, cur, hv, hbg, ?_, h3⟩
    rw [Below.heap_setCell W ⟨g, i, none⟩ u j (by show j ≠ g; omega)]
    exact hgg
theorem own_slice {w : World} {base n size : Nat} {e : TypeId} {v : Value} {xs : List Value} (h : w.ownsRow base e size v n xs) : ∃ A C, v = .slice A n C := by
  rcases h.2 with ⟨rfl, rfl⟩ | ⟨g, cap, cur, rfl, _⟩
  · exact ⟨none, 0, rfl⟩
  · exact ⟨_, _, rfl⟩
theorem few_snoc {L : List Sv} {k : Nat} (hk : k < L.length) : (L.take k).map fewv ++ [fewv (gdV L k)] = (L.take (k + 1)).map fewv := by
  rw [List.take_succ_eq_append_getElem hk, List.map_append, gdV_at hk]; rfl
theorem few_len {L : List Sv} {k : Nat} (hk : k ≤ L.length) : ((L.take k).map fewv).length = k := by rw [List.length_map, List.length_take]; omega
theorem few_at {L : List Sv} {k j : Nat} (hj : j < k) (hk : k ≤ L.length) : gdV ((L.take k).map fewv) j = fewv (gdV L j) := by
  rw [gdV_at (by rw [few_len hk]; exact hj), gdV_at (by omega)]; simp
theorem s4_take {w : World} {A : Option Addr} {T : List Q4} (h : S4 w A T) (n : Nat) : S4 w A (T.take n) := fun k hk => by
  rw [List.length_take] at hk
  have e : gd4 (T.take n) k = gd4 T k := by unfold gd4; rw [List.getD_eq_getElem?_getD, List.getD_eq_getElem?_getD, List.getElem?_take, if_pos (by omega)]
  rw [e]
  exact h k (by omega)
/-- Few's own blocks. -/
structure Fw (gp b : Nat) (P0 P1 U0 : Value) (N : List Sv) (w0 : World) (k : Nat) (v : Value) (W : World) : Prop where
  p : W.heap[gp]? = some (.cells #[P0, P1] 25 (0, 0))
  o : W.heap[gp + 1]? = some (.cells #[.slice none 0 0, .slice none 0 0] 25 (0, 0))
  u : W.heap[gp + 1 + 1]? = some (.cells #[U0, v] 25 (0, 0))
  own : W.ownsRow b 38 3 v k (flt svc ((N.take k).map fewv))
  bel : Below w0.heap.size w0 W
  lb : gp + 1 + 1 < b
  le : b ≤ W.heap.size
section
variable {gp b k : Nat} {P0 P1 U0 v v' : Value} {N : List Sv} {w0 W W' U : World}
theorem Fw.on (h : Fw gp b P0 P1 U0 N w0 k v W) (hb : Below W.heap.size W W') : Fw gp b P0 P1 U0 N w0 k v W' := ⟨blk_on h.p hb, blk_on h.o hb, blk_on h.u hb, own_below h.own hb, on_below h.bel hb, h.lb, Nat.le_trans h.le hb.size⟩
theorem Fw.far (h : Fw gp b P0 P1 U0 N w0 k v W) (hg : W.grownBy W' v.ownBlock) {g : Nat} {o : Obj} (hk : W.heap[g]? = some o) (hl : g < b) : W'.heap[g]? = some o := by
  rw [hg.block g (Array.getElem?_eq_some_iff.1 hk).1 (fun e => by have := (h.own.lt g e.symm).1; omega)]; exact hk
theorem Fw.put (h : Fw gp b P0 P1 U0 N w0 k v W) (hg : W.grownBy W' v.ownBlock) (hw : w0.heap.size ≤ gp) (own : W'.ownsRow b 38 3 v' (k + 1) (flt svc ((N.take (k + 1)).map fewv))) : Fw gp b P0 P1 U0 N w0 (k + 1) v' (W'.setCell ⟨gp + 1 + 1, 1, none⟩ v') :=
  ⟨blk_far (h.far hg h.p (by have := h.lb; omega)) (by omega), blk_far (h.far hg h.o (by have := h.lb; omega)) (by omega), set_cells (h.far hg h.u h.lb) 1 _,
   (by
    refine ⟨own.1, ?_⟩
    rcases own.2 with h0 | ⟨g, cap, cur, hv, hbg, hgg, h3⟩
    · exact .inl h0
    · refine .inr ⟨g, cap, cur, hv, hbg, ?_, h3⟩
      rw [Below.heap_setCell W' ⟨gp + 1 + 1, 1, none⟩ v' g (by have := h.lb; show g ≠ gp + 1 + 1; omega)]
      exact hgg),
   (h.bel.grown hg (Nat.le_trans (by have := h.lb; omega) h.le) (fun j e => by have := (h.own.lt j e).1; have := h.lb; omega)).setCell (by show w0.heap.size ≤ gp + 1 + 1; omega) _, h.lb, Nat.le_trans h.le (by have := hg.size; simp; exact this)⟩
end
set_option maxRecDepth 100000 in
set_option maxHeartbeats 4000000 in
theorem few11_is (SA : Option Addr) (SC : Nat) (S : List Bv) (NA : Option Addr) (NC : Nat) (N : List Sv) (hcs : S.length ≤ SC ∧ SC ≤ 9223372036854775807) (hlen : N.length ≤ 9223372036854775807) (hc : ∀ k, k < N.length → ((gdV N k).bs.length ≤ (gdV N k).BC ∧ (gdV N k).BC ≤ 9223372036854775807) ∧ (gdV N k).ts.length ≤ (gdV N k).TC ∧ (gdV N k).TC ≤ 9223372036854775807) (M : List Sv) (hM : fewl N = M) (ns : Nat) (hns : (S.take 6).length = ns) (w : World) (hn : SvS w NA N) :
    Calls Try.prog 5 #[.agg #[.slice SA S.length SC, .slice NA N.length NC]] w fun e_ w' => ∃ B, (∃ D, e_ = .returned (.agg #[.slice SA ns SC, .slice B M.length D])) ∧ SvS w' B M ∧ Below w.heap.size w w' := by
  have HL := Lib.hid hn
  clear hn
  have HC := Lib.hid hc
  clear hc
  obtain ⟨i1, hi1, hy0, hy1, hy2⟩ := info_of (show (Try.prog.info? 38).map (fun i => (i.zero, i.size, i.bytes)) = some (some (.agg #[.int .i64 0, .slice none 0 0, .slice none 0 0]), 3, 56) by kernel_rfl)
  have hm1 : min (S.length : Int) 6 = (ns : Int) := by rw [← hns, List.length_take]; omega
  have hm2 : (if (6 : Int) < (S.length : Int) then (6 : Int) else (S.length : Int)) = (ns : Int) := by rw [← hns, List.length_take]; split <;> omega
  have hn0 : (0 : Int) ≤ ns := by omega
  have hnn : (ns : Int) ≤ SC := by rw [← hns, List.length_take]; omega
  have hnn2 : ns ≤ SC := by omega
  have hmz := map_zero SA SC
  clear hns
  obtain ⟨hb3, hs3, kp, ko, ku⟩ := allocs3 w _ _ _ (rfl : ((w.alloc (.cells #[.slice SA S.length SC, .slice NA N.length NC] 25)).alloc (.cells #[.slice none 0 0, .slice none 0 0] 25)).alloc (.cells #[.slice SA ns SC, .slice none 0 0] 25) = _)
  have p0 : World.cell? ((w.alloc (.cells #[.slice SA S.length SC, .slice NA N.length NC] 25)).alloc (.cells #[.slice none 0 0, .slice none 0 0] 25)) ⟨w.heap.size, 0, none⟩ = some (.slice SA S.length SC) := by simp [go_sem]
  have HF := Lib.hid (show Fw w.heap.size (((w.alloc (.cells #[.slice SA S.length SC, .slice NA N.length NC] 25)).alloc (.cells #[.slice none 0 0, .slice none 0 0] 25)).alloc (.cells #[.slice SA ns SC, .slice none 0 0] 25)).heap.size (.slice SA S.length SC) (.slice NA N.length NC) (.slice SA ns SC) N w 0 (.slice none 0 0) (((w.alloc (.cells #[.slice SA S.length SC, .slice NA N.length NC] 25)).alloc (.cells #[.slice none 0 0, .slice none 0 0] 25)).alloc (.cells #[.slice SA ns SC, .slice none 0 0] 25)) from ⟨kp, ko, ku, World.ownsRow_nil _ _ _ _, hb3, by rw [hs3]; omega, Nat.le_refl _⟩)
  clear kp ko ku hb3 hs3
  go_enter Try.func5, Try.ntmps5
  go_wp2_with fail
  generalize ((w.alloc (.cells #[.slice SA S.length SC, .slice NA N.length NC] 25)).alloc (.cells #[.slice none 0 0, .slice none 0 0] 25)).alloc (.cells #[.slice SA ns SC, .slice none 0 0] 25) = w3 at *
  clear p0 hm1 hm2 hn0 hnn hnn2 hmz
  have HP := Lib.hid HF.out.bel
  go_loopw [4] (fun i wr => ∃ (k : Nat) (v : Value), (k ≤ N.length ∧ k ≤ 4) ∧ i = .int .i64 k ∧ Hid (Fw w.heap.size w3.heap.size (.slice SA S.length SC) (.slice NA N.length NC) (.slice SA ns SC) N w k v wr)) (fun i _ => 4 - (intOf i).toNat)
  case atStart => exact ⟨0, _, ⟨Nat.zero_le _, Nat.zero_le _⟩, rfl, HF.out⟩
  case round =>
    obtain ⟨k, v, ⟨hk, hk6⟩, rfl, HI⟩ := hrel
    clear HF HP
    have w1_ : IntKind.i64.wrap ((k : Int) + 1) = (k : Int) + 1 := IntWalk.i64_in _ ⟨by omega, by omega⟩
    have w2_ : wrap64 ((k : Int) + 1) = (k : Int) + 1 := IntWalk.wrap64_in _ ⟨by omega, by omega⟩
    obtain ⟨p0, p1, _, _⟩ := two_cells HI.out.p
    by_cases hlt : k < N.length ∧ k < 4
    · obtain ⟨hlt, hl6⟩ := hlt
      have e5 : ((k : Int) < (N.length : Int)) := by omega
      have e6 : ((k : Int) < 4) := by omega
      obtain ⟨b0, o0, rfl, e0, e1, e2, _⟩ := HL.out.below HI.out.bel k hlt
      obtain ⟨⟨hc1, hc2⟩, hc3, hc4⟩ := HC.out k hlt
      have HSN := Lib.hid (few_snoc hlt)
      have HLN := Lib.hid (few_len hk)
      have hm0 : k + 1 ≤ maxLen := by unfold maxLen; omega
      have hm0b : (k + 1) * 56 ≤ 140737488355328 := by omega
      generalize gdV N k = u at *
      obtain ⟨um, uBA, uBC, ub, uTA, uTC, ut⟩ := u
      dsimp only at e0 e1 e2 hc1 hc2 hc3 hc4
      replace HSN := Lib.hid (show (N.take k).map fewv ++ [(⟨um, uBA, uBC, ub.take 6, uTA, uTC, ut.take 8⟩ : Sv)] = (N.take (k + 1)).map fewv from HSN.out)
      obtain ⟨n1, hn1⟩ : ∃ n, (ub.take 6).length = n := ⟨_, rfl⟩
      have hmin1 : min (ub.length : Int) 6 = (n1 : Int) := by rw [← hn1, List.length_take]; omega
      have hmjn1 : (if (6 : Int) < (ub.length : Int) then (6 : Int) else (ub.length : Int)) = (n1 : Int) := by rw [← hn1, List.length_take]; split <;> omega
      have hnnn1 : (n1 : Int) ≤ uBC := by rw [← hn1, List.length_take]; omega
      have hnzn1 : (0 : Int) ≤ n1 := by omega
      have hncn1 : n1 ≤ uBC := by omega
      have hmzn1 := map_zero uBA uBC
      obtain ⟨n2, hn2⟩ : ∃ n, (ut.take 8).length = n := ⟨_, rfl⟩
      have hmin2 : min (ut.length : Int) 8 = (n2 : Int) := by rw [← hn2, List.length_take]; omega
      have hmjn2 : (if (8 : Int) < (ut.length : Int) then (8 : Int) else (ut.length : Int)) = (n2 : Int) := by rw [← hn2, List.length_take]; split <;> omega
      have hnnn2 : (n2 : Int) ≤ uTC := by rw [← hn2, List.length_take]; omega
      have hnzn2 : (0 : Int) ≤ n2 := by omega
      have hncn2 : n2 ≤ uTC := by omega
      have hmzn2 := map_zero uTA uTC
      have HN_ := Lib.hid (And.intro hn1 hn2)
      clear hn1 hn2 hc1 hc2 hc3 hc4
      have hb := below_new wr (.cells #[.int .i64 um, .slice uBA ub.length uBC, .slice uTA ut.length uTC] 38)
      have kz : (wr.alloc (.cells #[.int .i64 um, .slice uBA ub.length uBC, .slice uTA ut.length uTC] 38)).heap[wr.heap.size]? = some (.cells #[.int .i64 um, .slice uBA ub.length uBC, .slice uTA ut.length uTC] 38 (0, 0)) := World.alloc_heap_new _ _
      go_wp2_with fail
      generalize wr.alloc (.cells #[.int .i64 um, .slice uBA ub.length uBC, .slice uTA ut.length uTC] 38) = w1 at *
      have HLT := Lib.hid (fun j (hj : Value.ownBlock v = some j) => (HI.out.own.lt j hj).2)
      replace HI := Lib.hid (HI.out.on hb)
      clear hb e0 e1 e2 p0 p1
      obtain ⟨z0, z1, z2⟩ := cells3 kz
      obtain ⟨u0, u1, fu0, fu1⟩ := two_cells HI.out.u
      generalize wr.heap.size = g5 at *
      have HKZ := Lib.hid kz
      clear kz fu0 fu1
      have kpf : ∀ {V : World}, Below w1.heap.size w1 V → V.cell? ⟨g5, 0, none⟩ = some (.int .i64 um) ∧ V.cell? ⟨g5, 1, none⟩ = some (.slice uBA ub.length uBC) ∧ V.cell? ⟨g5, 2, none⟩ = some (.slice uTA ut.length uTC) := fun h => ⟨keepc h z0, keepc h z1, keepc h z2⟩
      refine wp_region_held_drew (S := fun V => V.cell? ⟨g5, 0, none⟩ = some (.int .i64 um) ∧ V.cell? ⟨g5, 1, none⟩ = some (.slice uBA ub.length uBC) ∧ V.cell? ⟨g5, 2, none⟩ = some (.slice uTA ut.length uTC)) (by kernel_rfl) (kpf (Below.refl _ _).drew) fun HL_ => ?_
      refine wpAnyH_take (i := 0) (v := .pointer (some ⟨w.heap.size + 1 + 1, 1, none⟩)) rfl (by kernel_rfl) (by kernel_rfl) (by kernel_rfl) (fun _ _ _ h => h) (Or.inl ⟨by kernel_rfl, ?_⟩) HL_ ?_
      · rintro Wl ⟨s0, s1, s2⟩
        go_simp
      simp only [Act.put, List.getElem_toArray, List.getElem_cons_succ, List.getElem_cons_zero, List.setIfInBounds_toArray, List.set_cons_zero, List.set_cons_succ]
      refine wpAnyH_take (i := 2) (v := .pointer (some ⟨g5, 0, none⟩)) rfl (by kernel_rfl) (by kernel_rfl) (by kernel_rfl) (fun _ _ _ h => h) (Or.inl ⟨by kernel_rfl, ?_⟩) HL_ ?_
      · rintro Wl ⟨s0, s1, s2⟩
        go_simp
      simp only [Act.put, List.getElem_toArray, List.getElem_cons_succ, List.getElem_cons_zero, List.setIfInBounds_toArray, List.set_cons_zero, List.set_cons_succ]
      refine wpAnyH_take (i := 3) (v := .int .i64 um) rfl (by kernel_rfl) (by kernel_rfl) (by kernel_rfl) (fun _ _ _ h => h) (Or.inl ⟨by kernel_rfl, ?_⟩) HL_ ?_
      · rintro Wl ⟨s0, s1, s2⟩
        go_simp
      simp only [Act.put, List.getElem_toArray, List.getElem_cons_succ, List.getElem_cons_zero, List.setIfInBounds_toArray, List.set_cons_zero, List.set_cons_succ]
      refine wpAnyH_take (i := 4) (v := .pointer (some ⟨g5, 1, none⟩)) rfl (by kernel_rfl) (by kernel_rfl) (by kernel_rfl) (fun _ _ _ h => h) (Or.inl ⟨by kernel_rfl, ?_⟩) HL_ ?_
      · rintro Wl ⟨s0, s1, s2⟩
        go_simp
      simp only [Act.put, List.getElem_toArray, List.getElem_cons_succ, List.getElem_cons_zero, List.setIfInBounds_toArray, List.set_cons_zero, List.set_cons_succ]
      refine wpAnyH_take (i := 5) (v := .slice uBA ub.length uBC) rfl (by kernel_rfl) (by kernel_rfl) (by kernel_rfl) (fun _ _ _ h => h) (Or.inl ⟨by kernel_rfl, ?_⟩) HL_ ?_
      · rintro Wl ⟨s0, s1, s2⟩
        go_simp
      simp only [Act.put, List.getElem_toArray, List.getElem_cons_succ, List.getElem_cons_zero, List.setIfInBounds_toArray, List.set_cons_zero, List.set_cons_succ]
      refine wpAnyH_take (i := 6) (v := .pointer (some ⟨g5, 1, none⟩)) rfl (by kernel_rfl) (by kernel_rfl) (by kernel_rfl) (fun _ _ _ h => h) (Or.inl ⟨by kernel_rfl, ?_⟩) HL_ ?_
      · rintro Wl ⟨s0, s1, s2⟩
        go_simp
      simp only [Act.put, List.getElem_toArray, List.getElem_cons_succ, List.getElem_cons_zero, List.setIfInBounds_toArray, List.set_cons_zero, List.set_cons_succ]
      refine wpAnyH_take (i := 7) (v := .slice uBA ub.length uBC) rfl (by kernel_rfl) (by kernel_rfl) (by kernel_rfl) (fun _ _ _ h => h) (Or.inl ⟨by kernel_rfl, ?_⟩) HL_ ?_
      · rintro Wl ⟨s0, s1, s2⟩
        go_simp
      simp only [Act.put, List.getElem_toArray, List.getElem_cons_succ, List.getElem_cons_zero, List.setIfInBounds_toArray, List.set_cons_zero, List.set_cons_succ]
      refine wpAnyH_take (i := 8) (v := .int .i64 ub.length) rfl (by kernel_rfl) (by kernel_rfl) (by kernel_rfl) (fun _ _ _ h => h) (Or.inl ⟨by kernel_rfl, ?_⟩) HL_ ?_
      · rintro Wl ⟨s0, s1, s2⟩
        go_simp
      simp only [Act.put, List.getElem_toArray, List.getElem_cons_succ, List.getElem_cons_zero, List.setIfInBounds_toArray, List.set_cons_zero, List.set_cons_succ]
      refine wpAnyH_take (i := 9) (v := .int .i64 n1) rfl (by kernel_rfl) (by kernel_rfl) (by kernel_rfl) (fun _ _ _ h => h) (Or.inl ⟨by kernel_rfl, ?_⟩) HL_ ?_
      · rintro Wl ⟨s0, s1, s2⟩
        go_simp
      simp only [Act.put, List.getElem_toArray, List.getElem_cons_succ, List.getElem_cons_zero, List.setIfInBounds_toArray, List.set_cons_zero, List.set_cons_succ]
      refine wpAnyH_take (i := 10) (v := .slice uBA n1 uBC) rfl (by kernel_rfl) (by kernel_rfl) (by kernel_rfl) (fun _ _ _ h => h) (Or.inl ⟨by kernel_rfl, ?_⟩) HL_ ?_
      · rintro Wl ⟨s0, s1, s2⟩
        go_simp
      simp only [Act.put, List.getElem_toArray, List.getElem_cons_succ, List.getElem_cons_zero, List.setIfInBounds_toArray, List.set_cons_zero, List.set_cons_succ]
      refine wpAnyH_take (i := 11) (v := .pointer (some ⟨g5, 2, none⟩)) rfl (by kernel_rfl) (by kernel_rfl) (by kernel_rfl) (fun _ _ _ h => h) (Or.inl ⟨by kernel_rfl, ?_⟩) HL_ ?_
      · rintro Wl ⟨s0, s1, s2⟩
        go_simp
      simp only [Act.put, List.getElem_toArray, List.getElem_cons_succ, List.getElem_cons_zero, List.setIfInBounds_toArray, List.set_cons_zero, List.set_cons_succ]
      refine wpAnyH_take (i := 12) (v := .slice uTA ut.length uTC) rfl (by kernel_rfl) (by kernel_rfl) (by kernel_rfl) (fun _ _ _ h => h) (Or.inl ⟨by kernel_rfl, ?_⟩) HL_ ?_
      · rintro Wl ⟨s0, s1, s2⟩
        go_simp
      simp only [Act.put, List.getElem_toArray, List.getElem_cons_succ, List.getElem_cons_zero, List.setIfInBounds_toArray, List.set_cons_zero, List.set_cons_succ]
      refine wpAnyH_take (i := 13) (v := .pointer (some ⟨g5, 2, none⟩)) rfl (by kernel_rfl) (by kernel_rfl) (by kernel_rfl) (fun _ _ _ h => h) (Or.inl ⟨by kernel_rfl, ?_⟩) HL_ ?_
      · rintro Wl ⟨s0, s1, s2⟩
        go_simp
      simp only [Act.put, List.getElem_toArray, List.getElem_cons_succ, List.getElem_cons_zero, List.setIfInBounds_toArray, List.set_cons_zero, List.set_cons_succ]
      refine wpAnyH_take (i := 14) (v := .slice uTA ut.length uTC) rfl (by kernel_rfl) (by kernel_rfl) (by kernel_rfl) (fun _ _ _ h => h) (Or.inl ⟨by kernel_rfl, ?_⟩) HL_ ?_
      · rintro Wl ⟨s0, s1, s2⟩
        go_simp
      simp only [Act.put, List.getElem_toArray, List.getElem_cons_succ, List.getElem_cons_zero, List.setIfInBounds_toArray, List.set_cons_zero, List.set_cons_succ]
      refine wpAnyH_take (i := 15) (v := .int .i64 ut.length) rfl (by kernel_rfl) (by kernel_rfl) (by kernel_rfl) (fun _ _ _ h => h) (Or.inl ⟨by kernel_rfl, ?_⟩) HL_ ?_
      · rintro Wl ⟨s0, s1, s2⟩
        go_simp
      simp only [Act.put, List.getElem_toArray, List.getElem_cons_succ, List.getElem_cons_zero, List.setIfInBounds_toArray, List.set_cons_zero, List.set_cons_succ]
      refine wpAnyH_take (i := 16) (v := .int .i64 n2) rfl (by kernel_rfl) (by kernel_rfl) (by kernel_rfl) (fun _ _ _ h => h) (Or.inl ⟨by kernel_rfl, ?_⟩) HL_ ?_
      · rintro Wl ⟨s0, s1, s2⟩
        go_simp
      simp only [Act.put, List.getElem_toArray, List.getElem_cons_succ, List.getElem_cons_zero, List.setIfInBounds_toArray, List.set_cons_zero, List.set_cons_succ]
      refine wpAnyH_take (i := 17) (v := .slice uTA n2 uTC) rfl (by kernel_rfl) (by kernel_rfl) (by kernel_rfl) (fun _ _ _ h => h) (Or.inl ⟨by kernel_rfl, ?_⟩) HL_ ?_
      · rintro Wl ⟨s0, s1, s2⟩
        go_simp
      simp only [Act.put, List.getElem_toArray, List.getElem_cons_succ, List.getElem_cons_zero, List.setIfInBounds_toArray, List.set_cons_zero, List.set_cons_succ]
      refine wpAnyH_take (i := 18) (v := .agg #[.int .i64 um, .slice uBA n1 uBC, .slice uTA n2 uTC]) rfl (by kernel_rfl) (by kernel_rfl) (by kernel_rfl) (fun _ _ _ h => h) (Or.inl ⟨by kernel_rfl, ?_⟩) HL_ ?_
      · rintro Wl ⟨s0, s1, s2⟩
        go_simp
      simp only [Act.put, List.getElem_toArray, List.getElem_cons_succ, List.getElem_cons_zero, List.setIfInBounds_toArray, List.set_cons_zero, List.set_cons_succ]
      refine wpAnyH_ready (rs := [1, 19]) (by kernel_rfl) (by simp) ?_
      refine AllReadyH.cons (o := _) rfl (fun K hK => ?_) (AllReadyH.cons (o := _) rfl (fun K hK => ?_) AllReadyH.nil)
      · have ud := (show w1.drew.cell? ⟨w.heap.size + 1 + 1, 1, none⟩ = some v from u1)
        go_simp
        refine hK.out _ _ (kpf (Below.refl _ _).drew) fun HL_ => ?_
        clear hK K ud
        refine wpAnyH_ready (rs := [19]) (by kernel_rfl) (by simp) ?_
        refine AllReadyH.cons (o := _) rfl (fun K hK => ?_) AllReadyH.nil
        go_simp
        have hb2 : Below w1.heap.size w1 (w1.alloc (.cells #[.int .i64 um, .slice uBA n1 uBC, .slice uTA n2 uTC] 38)).drew := (below_new w1 (.cells #[.int .i64 um, .slice uBA n1 uBC, .slice uTA n2 uTC] 38)).drew
        refine hK.out _ _ (kpf hb2) fun HL_ => ?_
        clear hK K
        have HSR := src_new w1 #[.int .i64 um, .slice uBA n1 uBC, .slice uTA n2 uTC] 38
        refine wpAnyH_ready (rs := [20]) (by kernel_rfl) (by simp) ?_
        refine AllReadyH.cons (o := _) rfl (fun K hK => ?_) AllReadyH.nil
        refine step_app _ (by rfl) _ _ _ (by rfl) w3.heap.size 38 i1 _ 3 56 Try.underlying23 hi1 hy0 hy1 hy2 rfl (by decide) _ _ _ (by rfl) (HI.out.own.alloc _).drew (some ⟨w1.heap.size, 0, none⟩) 1 1 [.int .i64 um, .slice uBA n1 uBC, .slice uTA n2 uTC] (by rfl) rfl HSR (by intro u_ hu_; simp only [List.mem_cons, List.not_mem_nil, or_false] at hu_; rcases hu_ with rfl | rfl | rfl <;> rfl) hm0 hm0b (Nat.le_trans HI.out.le hb2.size) ?_
        intro v1 uw1 own1 gr1
        have HI2 := Lib.hid (HI.out.on hb2)
        have kz2 : uw1.heap[g5]? = some (.cells #[.int .i64 um, .slice uBA ub.length uBC, .slice uTA ut.length uTC] 38 (0, 0)) := (gr1.block g5 (Array.getElem?_eq_some_iff.1 (blk_on HKZ.out hb2)).1 (fun e => by have := HLT.out g5 e.symm; omega)).trans (blk_on HKZ.out hb2)
        have hg5 : g5 ≠ w.heap.size + 1 + 1 := fun e => by rw [e] at kz2; have h := HI2.out.far gr1 HI2.out.u HI2.out.lb; rw [kz2] at h; injection h with h; injection h with _ h _; exact absurd h (by decide)
        refine hK.out _ _ (cells3 kz2) fun HL_ => ?_
        clear hK K
        obtain ⟨x0, x1, fx0, fx1⟩ := two_cells (HI2.out.far gr1 HI2.out.u HI2.out.lb)
        have own2 : uw1.ownsRow w3.heap.size 38 3 v1 (k + 1) (flt svc ((N.take (k + 1)).map fewv)) := by
          rw [← HSN.out, ← flt_snoc]
          unfold svc
          dsimp only
          rw [HN_.out.1, HN_.out.2]
          exact own1
        obtain ⟨vA, vC, hv1⟩ := own_slice own2
        subst hv1
        have HP2 := Lib.hid (HI2.out.put gr1 (Nat.le_refl _) own2)
        clear own1 own2 gr1 HI HI2
        have kz3 := blk_far (i := 1) (u := .slice vA (k + 1) vC) kz2 hg5
        clear kz2
        refine wpAnyH_take (i := 21) (v := .pointer (some ⟨w.heap.size + 1 + 1, 1, none⟩)) rfl (by kernel_rfl) (by kernel_rfl) (by kernel_rfl) (fun _ _ _ h => h) (Or.inl ⟨by kernel_rfl, ?_⟩) HL_ ?_
        · rintro Wl ⟨s0, s1, s2⟩
          go_simp
        simp only [Act.put, List.getElem_toArray, List.getElem_cons_succ, List.getElem_cons_zero, List.setIfInBounds_toArray, List.set_cons_zero, List.set_cons_succ]
        refine wpAnyH_ready (rs := [22]) (by kernel_rfl) (by simp) ?_
        refine AllReadyH.cons (o := _) rfl (fun K hK => ?_) AllReadyH.nil
        go_simp
        refine hK.out _ _ (cells3 kz3) fun HL_ => ?_
        clear hK K kz3 x0 x1 fx0 fx1 hg5
        refine wpAnyH_done (by kernel_rfl) ?_ _
        clear HL_ kpf z0 z1 z2 u0 u1 HKZ HLT HSR hb2 HSN HLN HN_ hm0 hm0b hmin1 hmjn1 hnnn1 hnzn1 hncn1 hmzn1 hmin2 hmjn2 hnnn2 hnzn2 hncn2 hmzn2
        go_wp2_with fail
        go_roundw
        case rel => exact ⟨k + 1, _, ⟨hlt, hl6⟩, int_of (by first | rfl | exact w1_ | exact w2_), HP2.out⟩
        case measure => simp [intOf, w1_, w2_]; clear w1_ w2_; omega
      · go_simp
        have hb2 : Below w1.heap.size w1 (w1.alloc (.cells #[.int .i64 um, .slice uBA n1 uBC, .slice uTA n2 uTC] 38)).drew := (below_new w1 (.cells #[.int .i64 um, .slice uBA n1 uBC, .slice uTA n2 uTC] 38)).drew
        refine hK.out _ _ (kpf hb2) fun HL_ => ?_
        clear hK K
        refine wpAnyH_ready (rs := [1]) (by kernel_rfl) (by simp) ?_
        refine AllReadyH.cons (o := _) rfl (fun K hK => ?_) AllReadyH.nil
        have ud := keepc hb2 u1
        go_simp
        refine hK.out _ _ (kpf hb2) fun HL_ => ?_
        clear hK K ud
        have HSR := src_new w1 #[.int .i64 um, .slice uBA n1 uBC, .slice uTA n2 uTC] 38
        refine wpAnyH_ready (rs := [20]) (by kernel_rfl) (by simp) ?_
        refine AllReadyH.cons (o := _) rfl (fun K hK => ?_) AllReadyH.nil
        refine step_app _ (by rfl) _ _ _ (by rfl) w3.heap.size 38 i1 _ 3 56 Try.underlying23 hi1 hy0 hy1 hy2 rfl (by decide) _ _ _ (by rfl) (HI.out.own.alloc _).drew (some ⟨w1.heap.size, 0, none⟩) 1 1 [.int .i64 um, .slice uBA n1 uBC, .slice uTA n2 uTC] (by rfl) rfl HSR (by intro u_ hu_; simp only [List.mem_cons, List.not_mem_nil, or_false] at hu_; rcases hu_ with rfl | rfl | rfl <;> rfl) hm0 hm0b (Nat.le_trans HI.out.le hb2.size) ?_
        intro v1 uw1 own1 gr1
        have HI2 := Lib.hid (HI.out.on hb2)
        have kz2 : uw1.heap[g5]? = some (.cells #[.int .i64 um, .slice uBA ub.length uBC, .slice uTA ut.length uTC] 38 (0, 0)) := (gr1.block g5 (Array.getElem?_eq_some_iff.1 (blk_on HKZ.out hb2)).1 (fun e => by have := HLT.out g5 e.symm; omega)).trans (blk_on HKZ.out hb2)
        have hg5 : g5 ≠ w.heap.size + 1 + 1 := fun e => by rw [e] at kz2; have h := HI2.out.far gr1 HI2.out.u HI2.out.lb; rw [kz2] at h; injection h with h; injection h with _ h _; exact absurd h (by decide)
        refine hK.out _ _ (cells3 kz2) fun HL_ => ?_
        clear hK K
        obtain ⟨x0, x1, fx0, fx1⟩ := two_cells (HI2.out.far gr1 HI2.out.u HI2.out.lb)
        have own2 : uw1.ownsRow w3.heap.size 38 3 v1 (k + 1) (flt svc ((N.take (k + 1)).map fewv)) := by
          rw [← HSN.out, ← flt_snoc]
          unfold svc
          dsimp only
          rw [HN_.out.1, HN_.out.2]
          exact own1
        obtain ⟨vA, vC, hv1⟩ := own_slice own2
        subst hv1
        have HP2 := Lib.hid (HI2.out.put gr1 (Nat.le_refl _) own2)
        clear own1 own2 gr1 HI HI2
        have kz3 := blk_far (i := 1) (u := .slice vA (k + 1) vC) kz2 hg5
        clear kz2
        refine wpAnyH_take (i := 21) (v := .pointer (some ⟨w.heap.size + 1 + 1, 1, none⟩)) rfl (by kernel_rfl) (by kernel_rfl) (by kernel_rfl) (fun _ _ _ h => h) (Or.inl ⟨by kernel_rfl, ?_⟩) HL_ ?_
        · rintro Wl ⟨s0, s1, s2⟩
          go_simp
        simp only [Act.put, List.getElem_toArray, List.getElem_cons_succ, List.getElem_cons_zero, List.setIfInBounds_toArray, List.set_cons_zero, List.set_cons_succ]
        refine wpAnyH_ready (rs := [22]) (by kernel_rfl) (by simp) ?_
        refine AllReadyH.cons (o := _) rfl (fun K hK => ?_) AllReadyH.nil
        go_simp
        refine hK.out _ _ (cells3 kz3) fun HL_ => ?_
        clear hK K kz3 x0 x1 fx0 fx1 hg5
        refine wpAnyH_done (by kernel_rfl) ?_ _
        clear HL_ kpf z0 z1 z2 u0 u1 HKZ HLT HSR hb2 HSN HLN HN_ hm0 hm0b hmin1 hmjn1 hnnn1 hnzn1 hncn1 hmzn1 hmin2 hmjn2 hnnn2 hnzn2 hncn2 hmzn2
        go_wp2_with fail
        go_roundw
        case rel => exact ⟨k + 1, _, ⟨hlt, hl6⟩, int_of (by first | rfl | exact w1_ | exact w2_), HP2.out⟩
        case measure => simp [intOf, w1_, w2_]; clear w1_ w2_; omega
    · have e5 : ¬ ((k : Int) < (N.length : Int)) ∨ ((k : Int) < (N.length : Int) ∧ ¬ ((k : Int) < 4)) := by omega
      have HF := Lib.hid (show (N.take k).map fewv = M from by
        rw [← hM]
        unfold fewl
        by_cases h6 : k < 4
        · have hk2 : k = N.length := by have := fun h => hlt ⟨h, h6⟩; omega
          subst hk2
          rw [List.take_of_length_le (Nat.le_refl _), List.take_of_length_le (by omega)]
        · have hk2 : k = 4 := by omega
          subst hk2; rfl)
      have HLM := Lib.hid (show ((N.take k).map fewv).length = M.length by rw [HF.out])
      have hb9 : Below w.heap.size w ((wr.setCell ⟨w.heap.size + 1, 0, none⟩ (.slice SA ns SC)).setCell ⟨w.heap.size + 1, 1, none⟩ v) := (HI.out.bel.setCell (by show w.heap.size ≤ w.heap.size + 1; omega) _).setCell (by show w.heap.size ≤ w.heap.size + 1; omega) _
      have HS := Lib.hid (show ∀ i, i < ((N.take k).map fewv).length → BdS ((wr.setCell ⟨w.heap.size + 1, 0, none⟩ (.slice SA ns SC)).setCell ⟨w.heap.size + 1, 1, none⟩ v) (gdV ((N.take k).map fewv) i).BA (gdV ((N.take k).map fewv) i).bs ∧ S4 ((wr.setCell ⟨w.heap.size + 1, 0, none⟩ (.slice SA ns SC)).setCell ⟨w.heap.size + 1, 1, none⟩ v) (gdV ((N.take k).map fewv) i).TA (gdV ((N.take k).map fewv) i).ts from fun i hi => by
        rw [few_len hk] at hi
        obtain ⟨_, _, _, _, _, _, h4, h5⟩ := HL.out.below hb9 i (by omega)
        rw [few_at hi hk]
        exact ⟨h4.take 6, s4_take h5 8⟩)
      have own9 := own_set (g := w.heap.size + 1) (i := 1) (u := v) (own_set (g := w.heap.size + 1) (i := 0) (u := .slice SA ns SC) HI.out.own (by have := HI.out.lb; omega)) (by have := HI.out.lb; omega)
      have hlk := few_len hk
      have own8 : ((wr.setCell ⟨w.heap.size + 1, 0, none⟩ (.slice SA ns SC)).setCell ⟨w.heap.size + 1, 1, none⟩ v).ownsRow w3.heap.size 38 3 v k (flt svc ((N.take k).map fewv)) := own9
      obtain ⟨B, D, rfl, hxs⟩ := own_svs own8 HS.out
      rw [HF.out] at hxs
      obtain ⟨u0, u1, _, _⟩ := two_cells HI.out.u
      obtain ⟨o0, o1, f0, f1⟩ := two_cells HI.out.o
      have lo := block_lt o0
      have hko := HI.out.o
      have hl9 := HLM.out
      clear own8 own9 hlk
      rw [hl9] at u1 hb9
      clear HI HS HF HLM hlt hl9
      obtain ⟨x0, x1, _, _⟩ := two_cells (show ((wr.setCell ⟨w.heap.size + 1, 0, none⟩ (.slice SA ns SC)).setCell ⟨w.heap.size + 1, 1, none⟩ (.slice B M.length D)).heap[w.heap.size + 1]? = some (.cells #[.slice SA ns SC, .slice B M.length D] 25 (0, 0)) from set_cells (set_cells hko 0 _) 1 _)
      clear hko
      rcases e5 with e5 | ⟨e5, e6⟩
      all_goals go_wp2_with fail
      all_goals refine bodyPost_ret (v := .agg #[.slice SA ns SC, .slice B M.length D]) (by simp [results, Try.results5, go_sem, x0, x1]) rfl ⟨B, ⟨D, rfl⟩, hxs, hb9⟩
end Go.Proofs.Ytiffgcipdamngaa

namespace Go.Proofs.Ytiffgcipdamngaa
open Go.ChangeShapes Go.WideShapes Go.ChangeAt Go.RowKit Go.Joins Go.Deep
open Go.RowKit (Below)
set_option linter.unusedVariables false
set_option linter.unusedSimpArgs false

theorem cellsScene : Try.prog.cellsOf 38 = 3 := by kernel_rfl
theorem cellsBodies : Try.prog.cellsOf 22 = 1 := by kernel_rfl
theorem cellsTargets : Try.prog.cellsOf 36 = 1 := by kernel_rfl

theorem cellsPlay : Try.prog.cellsOf 25 = 2 := by kernel_rfl
instance : Inhabited Sv := ⟨⟨0, none, 0, [], none, 0, []⟩⟩
/-- A slice of bodies that came in, with capacities. -/
structure LC (w : World) (A : Option Addr) (C : Nat) (L : List Bv) : Prop where
  sl : BdS w A L
  ca : ∀ k, k < L.length → (gdB L k).xs.length ≤ (gdB L k).C ∧ (gdB L k).C ≤ 9223372036854775807
  cap : L.length ≤ C ∧ C ≤ 9223372036854775807
/-- A slice of scenes that came in. -/
structure LV (w : World) (A : Option Addr) (C : Nat) (L : List Sv) : Prop where
  sl : SvS w A L
  ca : ∀ k, k < L.length → ((gdV L k).bs.length ≤ (gdV L k).BC ∧ (gdV L k).BC ≤ 9223372036854775807) ∧ (gdV L k).ts.length ≤ (gdV L k).TC ∧ (gdV L k).TC ≤ 9223372036854775807
  cb : ∀ k, k < L.length → ∀ j, j < (gdV L k).bs.length → (gdB (gdV L k).bs j).xs.length ≤ (gdB (gdV L k).bs j).C ∧ (gdB (gdV L k).bs j).C ≤ 9223372036854775807
  cap : L.length ≤ C ∧ C ≤ 9223372036854775807
section
variable {H : Type} {enc : TypeId × Value → H} {W : World} {m : Nat} {x : DataW H × List MemPlace}
set_option maxRecDepth 100000 in
theorem body_bk {cs : List Value} (h : DataW.trod enc Try.prog W 0 (fun _ => true) true m 46 cs = some x) :
    ∃ b : Bv, cs = vals3 b ∧ (SlS W b.A b.xs ∧ b.xs.length ≤ b.C ∧ b.C ≤ 9223372036854775807) ∧ ∀ (W' : World) (sp : Nat → Bool), Below W.heap.size W W' → (∀ q ∈ x.2, sp q.block = true) → ∃ n, DataW.trod enc Try.prog W' 0 sp true n 46 cs = some x := by
  obtain ⟨y0, y1, y2, m, rfl, hl, h0, h1, h2⟩ := trod_struct3 Try.underlying46 h
  rw [cellsBody] at hl
  match cs, hl with
  | [v0, v1, v2], _ =>
    simp only [cellsInt, cellsPts, List.drop_zero, List.drop_succ_cons, List.take_succ_cons, List.take_zero] at h0 h1 h2
    obtain ⟨A, C, xs, rfl, hl, _, back⟩ := open_pts h0
    have k1 := fun W' sp' => int_back (W' := W') (sp' := sp') h1
    have k2 := fun W' sp' => int_back (W' := W') (sp' := sp') h2
    obtain ⟨lo, rfl, _⟩ := k1 W (fun _ => true)
    obtain ⟨hi, rfl, _⟩ := k2 W (fun _ => true)
    refine ⟨⟨A, C, xs, lo, hi⟩, rfl, ⟨hl.sl, hl.cap.1, hl.cap.2⟩, fun W' sp' hb hs => ?_⟩
    obtain ⟨n0, t0⟩ := back W' sp' hb (fun q hq => hs q (List.mem_append.2 (.inl hq)))
    obtain ⟨_, _, _, _, n1, t1⟩ := k1 W' sp'
    obtain ⟨_, _, _, _, n2, t2⟩ := k2 W' sp'
    exact ⟨_, trod_struct3_mk (n := n0 + n1 + n2) Try.underlying46 (by rw [cellsBody]; rfl)
      (by simpa [cellsPts] using DataW.trod_le (show n0 ≤ n0 + n1 + n2 by omega) t0) (by simpa [cellsInt] using DataW.trod_le (show n1 ≤ n0 + n1 + n2 by omega) t1) (by simpa [cellsInt] using DataW.trod_le (show n2 ≤ n0 + n1 + n2 by omega) t2)⟩
set_option maxRecDepth 100000 in
theorem bodies_bk {v : Value} (h : DataW.trod enc Try.prog W 0 (fun _ => true) true m 22 [v] = some x) :
    ∃ (A : Option Addr) (C : Nat) (L : List Bv), v = .slice A L.length C ∧ LC W A C L ∧ ∀ (W' : World) (sp : Nat → Bool), Below W.heap.size W W' → (∀ q ∈ x.2, sp q.block = true) → ∃ n, DataW.trod enc Try.prog W' 0 sp true n 22 [v] = some x := by
  obtain ⟨A, C, L, e, h1, h2, h3, h4, h5⟩ := open_seq Try.underlying22 cellsBody (by omega) vals3 (fun _ => rfl) (fun b => SlS W b.A b.xs ∧ b.xs.length ≤ b.C ∧ b.C ≤ 9223372036854775807) (fun m cs x h => body_bk h) h
  refine ⟨A, C, L, e, ⟨fun k hk => ?_, (fun k hk => by rw [gdB_at hk]; obtain ⟨_, _, _, _, hg⟩ := h4 k hk; exact hg.2), h1, h2⟩, h5⟩
  obtain ⟨b, o, e, hc, hg⟩ := h4 k hk
  rw [gdB_at hk]
  exact ⟨b, o, e, hc 0 _ rfl, hc 1 _ rfl, hc 2 _ rfl, hg.1⟩
set_option maxRecDepth 100000 in
theorem targets_bk {v : Value} (h : DataW.trod enc Try.prog W 0 (fun _ => true) true m 36 [v] = some x) :
    ∃ (A : Option Addr) (C : Nat) (L : List Q4), v = .slice A L.length C ∧ (S4 W A L ∧ L.length ≤ C ∧ C ≤ 9223372036854775807) ∧ ∀ (W' : World) (sp : Nat → Bool), Below W.heap.size W W' → (∀ q ∈ x.2, sp q.block = true) → ∃ n, DataW.trod enc Try.prog W' 0 sp true n 36 [v] = some x := by
  obtain ⟨A, C, L, e, h1, h2, h3, h4, h5⟩ := open_seq Try.underlying36 cellsTarget (by omega) vals4 (fun _ => rfl) (fun _ => True) (fun m cs x h => by obtain ⟨q, e, k⟩ := target_back h; exact ⟨q, e, trivial, fun W' sp _ _ => k W' sp⟩) h
  refine ⟨A, C, L, e, ⟨fun k hk => ?_, h1, h2⟩, h5⟩
  obtain ⟨b, o, e, hc, hg⟩ := h4 k hk
  rw [gd4_at hk]
  exact ⟨b, o, e, hc 0 _ rfl, hc 1 _ rfl, hc 2 _ rfl, hc 3 _ rfl⟩
set_option maxRecDepth 100000 in
theorem scene_bk {cs : List Value} (h : DataW.trod enc Try.prog W 0 (fun _ => true) true m 38 cs = some x) :
    ∃ s : Sv, cs = svc s ∧ (LC W s.BA s.BC s.bs ∧ S4 W s.TA s.ts ∧ s.ts.length ≤ s.TC ∧ s.TC ≤ 9223372036854775807) ∧ ∀ (W' : World) (sp : Nat → Bool), Below W.heap.size W W' → (∀ q ∈ x.2, sp q.block = true) → ∃ n, DataW.trod enc Try.prog W' 0 sp true n 38 cs = some x := by
  obtain ⟨y0, y1, y2, m, rfl, hl, h0, h1, h2⟩ := trod_struct3 Try.underlying38 h
  rw [cellsScene] at hl
  match cs, hl with
  | [v0, v1, v2], _ =>
    simp only [cellsInt, cellsBodies, cellsTargets, List.drop_zero, List.drop_succ_cons, List.take_succ_cons, List.take_zero] at h0 h1 h2
    have k0 := fun W' sp' => int_back (W' := W') (sp' := sp') h0
    obtain ⟨mm, rfl, _⟩ := k0 W (fun _ => true)
    obtain ⟨A, C, bs, rfl, hlb, backb⟩ := bodies_bk h1
    obtain ⟨B, D, ts, rfl, hlt, backt⟩ := targets_bk h2
    refine ⟨⟨mm, A, C, bs, B, D, ts⟩, rfl, ⟨hlb, hlt⟩, fun W' sp' hb hs => ?_⟩
    obtain ⟨_, _, _, _, n0, t0⟩ := k0 W' sp'
    obtain ⟨n1, t1⟩ := backb W' sp' hb (fun q hq => hs q (by simp [hq]))
    obtain ⟨n2, t2⟩ := backt W' sp' hb (fun q hq => hs q (by simp [hq]))
    exact ⟨_, trod_struct3_mk (n := n0 + n1 + n2) Try.underlying38 (by rw [cellsScene]; rfl)
      (by simpa [cellsInt] using DataW.trod_le (show n0 ≤ n0 + n1 + n2 by omega) t0) (by simpa [cellsBodies] using DataW.trod_le (show n1 ≤ n0 + n1 + n2 by omega) t1) (by simpa [cellsTargets] using DataW.trod_le (show n2 ≤ n0 + n1 + n2 by omega) t2)⟩
set_option maxRecDepth 100000 in
theorem scenes_bk {v : Value} (h : DataW.trod enc Try.prog W 0 (fun _ => true) true m 23 [v] = some x) :
    ∃ (A : Option Addr) (C : Nat) (L : List Sv), v = .slice A L.length C ∧ LV W A C L ∧ ∀ (W' : World) (sp : Nat → Bool), Below W.heap.size W W' → (∀ q ∈ x.2, sp q.block = true) → ∃ n, DataW.trod enc Try.prog W' 0 sp true n 23 [v] = some x := by
  obtain ⟨A, C, L, e, h1, h2, h3, h4, h5⟩ := open_seq Try.underlying23 cellsScene (by omega) svc (fun _ => rfl) (fun s => LC W s.BA s.BC s.bs ∧ S4 W s.TA s.ts ∧ s.ts.length ≤ s.TC ∧ s.TC ≤ 9223372036854775807) (fun m cs x h => scene_bk h) h
  refine ⟨A, C, L, e, ⟨fun k hk => ?_, (fun k hk => by rw [gdV_at hk]; obtain ⟨_, _, _, _, hg⟩ := h4 k hk; exact ⟨hg.1.cap, hg.2.2⟩), (fun k hk => by rw [gdV_at hk]; obtain ⟨_, _, _, _, hg⟩ := h4 k hk; exact hg.1.ca), h1, h2⟩, h5⟩
  obtain ⟨b, o, e, hc, hg⟩ := h4 k hk
  rw [gdV_at hk]
  exact ⟨b, o, e, hc 0 _ rfl, hc 1 _ rfl, hc 2 _ rfl, hg.1.sl, hg.2.1⟩
variable {base : Nat} {v : Value} {d : DataW H} {p : List MemPlace}
set_option maxRecDepth 100000 in
theorem open_play (hv : Value.okWide Try.prog W .any base 25 v) (h : DataW.Trod enc Try.prog W 0 (fun _ => true) true 25 v d p) :
    ∃ (SA : Option Addr) (SC : Nat) (S : List Bv) (NA : Option Addr) (NC : Nat) (N : List Sv), v = .agg #[.slice SA S.length SC, .slice NA N.length NC] ∧ LC W SA SC S ∧ LV W NA NC N ∧
      ∀ (W' : World) (sp : Nat → Bool), Below W.heap.size W W' → (∀ q ∈ p, sp q.block = true) → DataW.Trod enc Try.prog W' 0 sp true 25 v d p := by
  obtain ⟨c0, c1, y0, y1, m, rfl, rfl, rfl, hy0, hy1⟩ := open_agg2 Try.underlying25 (by kernel_rfl) cellsPlay hv h
  obtain ⟨SA, SC, S, rfl, hs, backs⟩ := bodies_bk hy0
  obtain ⟨NA, NC, N, rfl, hn, backn⟩ := scenes_bk hy1
  refine ⟨SA, SC, S, NA, NC, N, rfl, hs, hn, fun W' sp hb hsp => ?_⟩
  exact shut_agg2 (y0 := y0) (y1 := y1) Try.underlying25 (by kernel_rfl) cellsPlay (backs W' sp hb (fun q hq => hsp q (List.mem_append.2 (.inl hq)))) (backn W' sp hb (fun q hq => hsp q (List.mem_append.2 (.inr hq))))
set_option maxRecDepth 100000 in
theorem open_bods (hv : Value.okWide Try.prog W .any base 22 v) (h : DataW.Trod enc Try.prog W 0 (fun _ => true) true 22 v d p) :
    ∃ (A : Option Addr) (C : Nat) (L : List Bv), v = .slice A L.length C ∧ LC W A C L ∧
      ∀ (W' : World) (sp : Nat → Bool), Below W.heap.size W W' → (∀ q ∈ p, sp q.block = true) → DataW.Trod enc Try.prog W' 0 sp true 22 v d p := by
  obtain ⟨a0, len, cap, rfl⟩ := okWide_slice Try.underlying22 hv
  obtain ⟨fuel, hf⟩ := h
  simp only [Value.cells] at hf
  obtain ⟨A, C, L, e, h1, h2⟩ := bodies_bk hf
  refine ⟨A, C, L, e, h1, fun W' sp hb hs => ?_⟩
  obtain ⟨n, t⟩ := h2 W' sp hb hs
  exact ⟨n, by simpa [Value.cells] using t⟩
end
end Go.Proofs.Ytiffgcipdamngaa
