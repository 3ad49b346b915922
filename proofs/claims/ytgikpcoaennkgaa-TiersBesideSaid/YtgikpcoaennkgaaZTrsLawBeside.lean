/-
  TiersBeside.
-/
import Derived.Test.YtgikpcoaennkgaaZTrsX
import Derived.Test.YtgikpcoaennkgaaRows
import Derived.ProofKit
import Derived.OpenShut
import Derived.Deep.DeepHandedRow
import Derived.Deep.DeepWitnessRowRef
import Derived.MakeChecks
import Derived.Deep.DeepCutAuto
namespace Go.Proofs.Ytgikpcoaennkgaa.LawBeside
open Go.RowKit Go.Sort
open Go.RowKit (Below)
set_option linter.unusedVariables false
set_option linter.unusedSimpArgs false
attribute [local go_sem] Oper.semAt_some

theorem pl_ne {pi pa pb px py pz pk qi qa qb qx qy qz qk : Int} (h : pb ≠ qb) (w : World) : (binOp .neq 28 (.agg #[.int .i64 pi, .int .i64 pa, .int .i64 pb, .int .i64 px, .int .i64 py, .int .i64 pz, .int .i64 pk]) (.agg #[.int .i64 qi, .int .i64 qa, .int .i64 qb, .int .i64 qx, .int .i64 qy, .int .i64 qz, .int .i64 qk])).run Try.prog w = .ok (.bool true) w := by
  by_cases h1 : pi = qi
  · by_cases h2 : pa = qa
    · subst h1 h2; simp [go_sem, h]
    · simp [go_sem, h1, h2]
  · simp [go_sem, h1]
theorem nxt_pos {p q : Pl} (h : nxt p q = true) : p.pos ≠ q.pos := by
  obtain ⟨_, h⟩ := nxt_iff.1 h
  omega
theorem ins_pair {w : World} {A : Option Addr} {a b : Int} (h : InS w A [a, b]) : ∃ g o, A = some ⟨g, o, none⟩ ∧ w.cell? ⟨g, o, none⟩ = some (.int .i64 a) ∧ w.cell? ⟨g, o + 1, none⟩ = some (.int .i64 b) := by
  obtain ⟨g, o, e, h0⟩ := h 0 (show (0 : Nat) < 2 by decide)
  obtain ⟨g1, o1, e1, h1⟩ := h 1 (show (1 : Nat) < 2 by decide)
  rw [e] at e1
  injection e1 with e1
  injection e1 with e1 e2 _
  subst e1 e2
  exact ⟨g, o, e, h0, h1⟩
theorem nrs_go {L : List Pl} {i k : Nat} {p q : Pl} (hp : gdP L i = p) (hq : gdP L k = q) : nrs L i (k + 1) = nrs L i k ++ if nxt p q = true then [q.id] else [] := by
  subst hp hq
  rfl
set_option maxRecDepth 100000 in
set_option maxHeartbeats 4000000 in
theorem bes_0 (lA : Option Addr) (lC : Nat) (l : List Pl) (h : ¬ l.length ≤ 20) (w : World) (hl : PlS w lA l) :
    Calls Try.prog 4 #[.slice lA l.length lC] w fun e_ w' => e_ = .returned (.bool true) ∧ Below w.heap.size w w' := by
  have z0 : decide ((20 : Int) < (l.length : Int)) = true := decide_eq_true (by omega)
  have HL := Lib.hid hl
  clear hl
  have HB := Lib.hid (Below.refl w.heap.size w)
  go_enter Try.func4, Try.ntmps4
  go_wp2_with fail
  with_reducible refine (head12_any _).mono ?_
  rintro e_ w1 ⟨rfl, hb⟩
  replace HB := Lib.hid (on_below HB.out hb)
  replace HL := Lib.hid (HL.out.below hb)
  clear hb
  go_wp2_with fail
  go_ret
  exact ⟨rfl, HB.out⟩
set_option maxRecDepth 100000 in
set_option maxHeartbeats 4000000 in
theorem bes_1 (lA : Option Addr) (lC : Nat) (l : List Pl) (h : l.length ≤ 20) (hn : ¬ PlOk3 l) (w : World) (hl : PlS w lA l) :
    Calls Try.prog 4 #[.slice lA l.length lC] w fun e_ w' => e_ = .returned (.bool true) ∧ Below w.heap.size w w' := by
  have z0 : decide ((20 : Int) < (l.length : Int)) = false := decide_eq_false (by omega)
  have CV := Lib.hid (fun W (h2 : PlS W lA l) => qval_is lA lC l (by omega) false (by simp [hn]) W h2)
  clear hn
  have HL := Lib.hid hl
  clear hl
  have HB := Lib.hid (Below.refl w.heap.size w)
  go_enter Try.func4, Try.ntmps4
  go_wp2_with fail
  with_reducible refine (head12_any _).mono ?_
  rintro e_ w1 ⟨rfl, hb⟩
  replace HB := Lib.hid (on_below HB.out hb)
  replace HL := Lib.hid (HL.out.below hb)
  clear hb
  go_wp2_with fail
  with_reducible refine (CV.out _ HL.out).mono ?_
  rintro e_ w2 ⟨rfl, hb⟩
  replace HB := Lib.hid (on_below HB.out hb)
  replace HL := Lib.hid (HL.out.below hb)
  clear hb
  go_wp2_with fail
  go_ret
  exact ⟨rfl, HB.out⟩
set_option maxRecDepth 100000 in
set_option maxHeartbeats 8000000 in
theorem bes_2 (lA : Option Addr) (lC : Nat) (l : List Pl) (h : l.length ≤ 20) (hok : PlOk3 l) (hfit : ∀ k, k < l.length → I64 (gdP l k).id) (w : World) (hl : PlS w lA l) :
    Calls Try.prog 4 #[.slice lA l.length lC] w fun e_ w' => e_ = .returned (.bool true) ∧ Below w.heap.size w w' := by
  have z0 : decide ((20 : Int) < (l.length : Int)) = false := decide_eq_false (by omega)
  have CV := Lib.hid (fun W (h2 : PlS W lA l) => qval_is lA lC l (by omega) true (by simp [hok]) W h2)
  have CB := Lib.hid (fun k j (hk : k < l.length) (hj : j < l.length) (r : Bool) (hr : r = nxt (gdP l k) (gdP l j)) W (h2 : PlS W lA l) => tbes_is lA lC l (gdP l k).id (gdP l j).id (hfit k hk) (hfit j hj) r 0 (.inr (.inr ⟨hok, by rw [ixP_at hok.dst hk]; exact hk, by rw [ixP_at hok.dst hj]; exact hj, by rw [ixP_at hok.dst hk, ixP_at hok.dst hj]; exact hr, rfl⟩)) W h2)
  have hris := ris_of hok.rise
  have NF := Lib.hid (fun k (hk : k < l.length) j (hj : j ≤ l.length) => nr_few hris hk hj)
  have NT := Lib.hid (fun k (hk : k < l.length) => nr_two hris hk)
  obtain ⟨i0, hi0, hz0, hz1, hz2⟩ := info_of infoInt
  clear hok hfit hris
  have HL := Lib.hid hl
  clear hl
  have HB := Lib.hid (Below.refl w.heap.size w)
  go_enter Try.func4, Try.ntmps4
  go_wp2_with fail
  with_reducible refine (head12_any _).mono ?_
  rintro e_ w1 ⟨rfl, hb⟩
  replace HB := Lib.hid (on_below HB.out hb)
  replace HL := Lib.hid (HL.out.below hb)
  clear hb
  go_wp2_with fail
  with_reducible refine (CV.out _ HL.out).mono ?_
  rintro e_ w2 ⟨rfl, hb⟩
  replace HB := Lib.hid (on_below HB.out hb)
  replace HL := Lib.hid (HL.out.below hb)
  clear hb
  go_wp2_with fail
  go_loopw [3, 27] (fun u i wr => u = .bool true ∧ ∃ k : Nat, k ≤ l.length ∧ i = .int .i64 k ∧ Hid (Below w2.heap.size w2 wr)) (fun _ i _ => l.length - (intOf i).toNat)
  case atStart => exact ⟨rfl, 0, Nat.zero_le _, rfl, Below.refl _ _⟩
  case round =>
    obtain ⟨rfl, k, hk, rfl, HW⟩ := hrel
    by_cases hlt : k < l.length
    rotate_left
    · go_wp2_with fail
      go_ret
      exact ⟨rfl, on_below HB.out HW.out⟩
    have w1_ := wr_up (k := k) (by omega)
    have w2_ := wr_up' (k := k) (by omega)
    have HS := Lib.hid (HL.out.below HW.out)
    obtain ⟨b0, o0, hA0, e0, e1, e2, e3, e4, e5, e6⟩ := HS.out k hlt
    have HCB := Lib.hid (fun (j : Nat) (hj : j < l.length) => CB.out k j hlt hj)
    have HCB2 := Lib.hid (fun (j : Nat) (hj : j < l.length) (r : Bool) (hr : r = nxt (gdP l k) (gdP l j)) => CB.out j k hj hlt r (hr.trans (nxt_comm _ _)))
    have HGO := Lib.hid (fun (j : Nat) => nrs_go (L := l) (i := k) (k := j) rfl rfl)
    have NFK := Lib.hid (NF.out k hlt)
    have NTK := Lib.hid (NT.out k hlt)
    generalize gdP l k = p at HCB HCB2 HGO e0 e1 e2 e3 e4 e5 e6
    obtain ⟨pi, pa, pb, px, py, pz, pk⟩ := p
    dsimp only at HCB HCB2 HGO e0 e1 e2 e3 e4 e5 e6
    subst hA0
    go_upto_region 7 with fail
    have hb := below_new wr (.cells #[.int .i64 pi, .int .i64 pa, .int .i64 pb, .int .i64 px, .int .i64 py, .int .i64 pz, .int .i64 pk] 28)
    have x0 : World.cell? (wr.alloc (.cells #[.int .i64 pi, .int .i64 pa, .int .i64 pb, .int .i64 px, .int .i64 py, .int .i64 pz, .int .i64 pk] 28)) ⟨wr.heap.size, 0, none⟩ = some (.int .i64 pi) := by simp [go_sem]
    have x1 : World.cell? (wr.alloc (.cells #[.int .i64 pi, .int .i64 pa, .int .i64 pb, .int .i64 px, .int .i64 py, .int .i64 pz, .int .i64 pk] 28)) ⟨wr.heap.size, 1, none⟩ = some (.int .i64 pa) := by simp [go_sem]
    have x2 : World.cell? (wr.alloc (.cells #[.int .i64 pi, .int .i64 pa, .int .i64 pb, .int .i64 px, .int .i64 py, .int .i64 pz, .int .i64 pk] 28)) ⟨wr.heap.size, 2, none⟩ = some (.int .i64 pb) := by simp [go_sem]
    have x3 : World.cell? (wr.alloc (.cells #[.int .i64 pi, .int .i64 pa, .int .i64 pb, .int .i64 px, .int .i64 py, .int .i64 pz, .int .i64 pk] 28)) ⟨wr.heap.size, 3, none⟩ = some (.int .i64 px) := by simp [go_sem]
    have x4 : World.cell? (wr.alloc (.cells #[.int .i64 pi, .int .i64 pa, .int .i64 pb, .int .i64 px, .int .i64 py, .int .i64 pz, .int .i64 pk] 28)) ⟨wr.heap.size, 4, none⟩ = some (.int .i64 py) := by simp [go_sem]
    have x5 : World.cell? (wr.alloc (.cells #[.int .i64 pi, .int .i64 pa, .int .i64 pb, .int .i64 px, .int .i64 py, .int .i64 pz, .int .i64 pk] 28)) ⟨wr.heap.size, 5, none⟩ = some (.int .i64 pz) := by simp [go_sem]
    have x6 : World.cell? (wr.alloc (.cells #[.int .i64 pi, .int .i64 pa, .int .i64 pb, .int .i64 px, .int .i64 py, .int .i64 pz, .int .i64 pk] 28)) ⟨wr.heap.size, 6, none⟩ = some (.int .i64 pk) := by simp [go_sem]
    generalize wr.alloc (.cells #[.int .i64 pi, .int .i64 pa, .int .i64 pb, .int .i64 px, .int .i64 py, .int .i64 pz, .int .i64 pk] 28) = w40 at *
    have lx := block_lt x0
    replace HS := Lib.hid (HS.out.below hb)
    have HV := Lib.hid (on_below HW.out hb)
    clear hb HW e0 e1 e2 e3 e4 e5 e6
    generalize wr.heap.size = gp at x0 x1 x2 x3 x4 x5 x6 lx ⊢
    go_wp2_with fail
    go_loopw [3, 6, 33] (fun u v i wr => u = .bool true ∧ ∃ (j : Nat) (Y : List Int), j ≤ l.length ∧ i = .int .i64 j ∧ Hid (Y = nrs l k j) ∧ Y.length ≤ 2 ∧ Hid (wr.ownsRow w40.heap.size 3 1 v Y.length (Y.map (Value.int .i64))) ∧ Hid (Below w40.heap.size w40 wr)) (fun _ _ i _ => l.length - (intOf i).toNat)
    case atStart => exact ⟨rfl, 0, [], Nat.zero_le _, rfl, rfl, Nat.zero_le _, World.ownsRow_nil _ _ _ _, Below.refl _ _⟩
    case round =>
      obtain ⟨rfl, j, Y, hj, rfl, HY, hyl, HOW, HI⟩ := hrel
      by_cases hlj : j < l.length
      rotate_left
      · obtain rfl : j = l.length := Nat.le_antisymm hj (Nat.le_of_not_lt hlj)
        have hln : decide ((Y.length : Int) ≤ 2) = true := decide_eq_true (by omega)
        obtain ⟨yA, yC, rfl, hin, _, _, _, _⟩ := InS.own HOW.out
        have HIN := Lib.hid hin
        clear hin HOW
        have HZ := Lib.hid (on_below HV.out HI.out)
        by_cases h2 : Y.length = 2
        rotate_left
        · have d2 : ((Y.length : Int) == 2) = false := by simp; omega
          clear h2
          go_wp2_with fail
          go_roundw
          case rel => exact ⟨rfl, k + 1, hlt, int_of (by first | rfl | exact w1_ | exact w2_), HZ.out⟩
          case measure => simp [intOf, w1_, w2_]; clear w1_ w2_; omega
        · obtain ⟨u, v, hu, hv, hY2, hn⟩ := NTK.out (by rw [← HY.out]; exact h2)
          have CN := Lib.hid (CB.out u v hu hv false hn.symm)
          rw [← HY.out] at hY2
          clear HY
          subst hY2
          clear h2 hln hyl
          have HSI := Lib.hid (HS.out.below HI.out)
          generalize (gdP l u).id = a at *
          generalize (gdP l v).id = b at *
          obtain ⟨g, o, rfl, n0, n1⟩ := ins_pair HIN.out
          clear HIN hn hu hv
          dsimp only [List.length_cons, List.length_nil]
          go_wp2_with fail
          have kp : ∀ {Wq_ : World}, Below wr.heap.size wr Wq_ → Wq_.cell? ⟨g, o, none⟩ = some (.int .i64 a) ∧ Wq_.cell? ⟨g, o + 1, none⟩ = some (.int .i64 b) := fun h => ⟨keepc h n0, keepc h n1⟩
          have hB : Below wr.heap.size wr wr.drew := (Below.refl _ _).drew
          refine wp_region_held_drew (S := fun Wq_ => Wq_.cell? ⟨g, o, none⟩ = some (.int .i64 a) ∧ Wq_.cell? ⟨g, o + 1, none⟩ = some (.int .i64 b)) (by kernel_rfl) (kp (Below.refl _ _).drew) fun HL_ => ?_
          generalize wr.drew = wq0_ at *
          refine wpAnyH_take (i := 0) (v := .slice (some ⟨b0, o0, none⟩) l.length lC) rfl (by kernel_rfl) (by kernel_rfl) (by kernel_rfl) (fun _ _ _ h => h) (Or.inl ⟨by kernel_rfl, ?_⟩) HL_ ?_
          · rintro Wl ⟨s0, s1⟩
            go_simp
          simp only [Act.put, List.getElem_toArray, List.getElem_cons_succ, List.getElem_cons_zero, List.setIfInBounds_toArray, List.set_cons_zero, List.set_cons_succ]
          refine wpAnyH_take (i := 1) (v := .slice (some ⟨g, o, none⟩) 2 yC) rfl (by kernel_rfl) (by kernel_rfl) (by kernel_rfl) (fun _ _ _ h => h) (Or.inl ⟨by kernel_rfl, ?_⟩) HL_ ?_
          · rintro Wl ⟨s0, s1⟩
            go_simp
          simp only [Act.put, List.getElem_toArray, List.getElem_cons_succ, List.getElem_cons_zero, List.setIfInBounds_toArray, List.set_cons_zero, List.set_cons_succ]
          refine wpAnyH_take (i := 2) (v := .pointer (some ⟨g, o, none⟩)) rfl (by kernel_rfl) (by kernel_rfl) (by kernel_rfl) (fun _ _ _ h => h) (Or.inl ⟨by kernel_rfl, ?_⟩) HL_ ?_
          · rintro Wl ⟨s0, s1⟩
            go_simp
          simp only [Act.put, List.getElem_toArray, List.getElem_cons_succ, List.getElem_cons_zero, List.setIfInBounds_toArray, List.set_cons_zero, List.set_cons_succ]
          refine wpAnyH_take (i := 3) (v := .int .i64 a) rfl (by kernel_rfl) (by kernel_rfl) (by kernel_rfl) (fun _ _ _ h => h) (Or.inl ⟨by kernel_rfl, ?_⟩) HL_ ?_
          · rintro Wl ⟨s0, s1⟩
            go_simp
          simp only [Act.put, List.getElem_toArray, List.getElem_cons_succ, List.getElem_cons_zero, List.setIfInBounds_toArray, List.set_cons_zero, List.set_cons_succ]
          refine wpAnyH_take (i := 4) (v := .slice (some ⟨g, o, none⟩) 2 yC) rfl (by kernel_rfl) (by kernel_rfl) (by kernel_rfl) (fun _ _ _ h => h) (Or.inl ⟨by kernel_rfl, ?_⟩) HL_ ?_
          · rintro Wl ⟨s0, s1⟩
            go_simp
          simp only [Act.put, List.getElem_toArray, List.getElem_cons_succ, List.getElem_cons_zero, List.setIfInBounds_toArray, List.set_cons_zero, List.set_cons_succ]
          refine wpAnyH_take (i := 5) (v := .pointer (some ⟨g, o + 1, none⟩)) rfl (by kernel_rfl) (by kernel_rfl) (by kernel_rfl) (fun _ _ _ h => h) (Or.inl ⟨by kernel_rfl, ?_⟩) HL_ ?_
          · rintro Wl ⟨s0, s1⟩
            go_simp
          simp only [Act.put, List.getElem_toArray, List.getElem_cons_succ, List.getElem_cons_zero, List.setIfInBounds_toArray, List.set_cons_zero, List.set_cons_succ]
          refine wpAnyH_take (i := 6) (v := .int .i64 b) rfl (by kernel_rfl) (by kernel_rfl) (by kernel_rfl) (fun _ _ _ h => h) (Or.inl ⟨by kernel_rfl, ?_⟩) HL_ ?_
          · rintro Wl ⟨s0, s1⟩
            go_simp
          simp only [Act.put, List.getElem_toArray, List.getElem_cons_succ, List.getElem_cons_zero, List.setIfInBounds_toArray, List.set_cons_zero, List.set_cons_succ]
          refine wpAnyH_ready (rs := [7]) (by kernel_rfl) (by simp) ?_
          refine AllReadyH.cons (o := _) rfl (fun K hK => ?_) AllReadyH.nil
          go_simp
          with_reducible refine (CN.out _ (HSI.out.below hB)).mono ?_
          rintro e_ wq1_ ⟨rfl, hb⟩
          replace hB := on_below hB hb
          clear hb
          refine hK.out _ _ (kp hB) fun HL_ => ?_
          clear hK K
          refine wpAnyH_take (i := 8) (v := .tuple #[.bool false, .int .i64 0]) rfl (by kernel_rfl) (by kernel_rfl) (by kernel_rfl) (fun _ _ _ h => h) (Or.inl ⟨by kernel_rfl, ?_⟩) HL_ ?_
          · rintro Wl ⟨s0, s1⟩
            go_simp
          simp only [Act.put, List.getElem_toArray, List.getElem_cons_succ, List.getElem_cons_zero, List.setIfInBounds_toArray, List.set_cons_zero, List.set_cons_succ]
          refine wpAnyH_take (i := 9) (v := .bool false) rfl (by kernel_rfl) (by kernel_rfl) (by kernel_rfl) (fun _ _ _ h => h) (Or.inl ⟨by kernel_rfl, ?_⟩) HL_ ?_
          · rintro Wl ⟨s0, s1⟩
            go_simp
          simp only [Act.put, List.getElem_toArray, List.getElem_cons_succ, List.getElem_cons_zero, List.setIfInBounds_toArray, List.set_cons_zero, List.set_cons_succ]
          refine wpAnyH_take (i := 10) (v := .int .i64 0) rfl (by kernel_rfl) (by kernel_rfl) (by kernel_rfl) (fun _ _ _ h => h) (Or.inl ⟨by kernel_rfl, ?_⟩) HL_ ?_
          · rintro Wl ⟨s0, s1⟩
            go_simp
          simp only [Act.put, List.getElem_toArray, List.getElem_cons_succ, List.getElem_cons_zero, List.setIfInBounds_toArray, List.set_cons_zero, List.set_cons_succ]
          refine wpAnyH_take (i := 11) (v := .bool false) rfl (by kernel_rfl) (by kernel_rfl) (by kernel_rfl) (fun _ _ _ h => h) (Or.inl ⟨by kernel_rfl, ?_⟩) HL_ ?_
          · rintro Wl ⟨s0, s1⟩
            go_simp
          simp only [Act.put, List.getElem_toArray, List.getElem_cons_succ, List.getElem_cons_zero, List.setIfInBounds_toArray, List.set_cons_zero, List.set_cons_succ]
          refine wpAnyH_take (i := 12) (v := .int .i64 0) rfl (by kernel_rfl) (by kernel_rfl) (by kernel_rfl) (fun _ _ _ h => h) (Or.inl ⟨by kernel_rfl, ?_⟩) HL_ ?_
          · rintro Wl ⟨s0, s1⟩
            go_simp
          simp only [Act.put, List.getElem_toArray, List.getElem_cons_succ, List.getElem_cons_zero, List.setIfInBounds_toArray, List.set_cons_zero, List.set_cons_succ]
          refine wpAnyH_done (by kernel_rfl) ?_ _
          clear HL_ kp
          generalize wq1_ = wh at *
          have HZ2 := Lib.hid (on_below HZ.out hB)
          clear hB n0 n1 CN
          go_wp2_with fail
          go_roundw
          case rel => exact ⟨rfl, k + 1, hlt, int_of (by first | rfl | exact w1_ | exact w2_), HZ2.out⟩
          case measure => simp [intOf, w1_, w2_]; clear w1_ w2_; omega
      have v1_ := wr_up (k := j) (by omega)
      have v2_ := wr_up' (k := j) (by omega)
      have HSI := Lib.hid (HS.out.below HI.out)
      obtain ⟨b1, o1, hA1, f0, f1, f2, f3, f4, f5, f6⟩ := HSI.out j hlj
      have HJ1 := Lib.hid (HCB.out j hlj)
      have HJ2 := Lib.hid (HCB2.out j hlj)
      have HGJ := Lib.hid (HGO.out j)
      generalize gdP l j = q at HJ1 HJ2 HGJ f0 f1 f2 f3 f4 f5 f6
      obtain ⟨qi, qa, qb, qx, qy, qz, qk⟩ := q
      obtain ⟨r, hr⟩ : ∃ r, nxt ⟨pi, pa, pb, px, py, pz, pk⟩ ⟨qi, qa, qb, qx, qy, qz, qk⟩ = r := ⟨_, rfl⟩
      have HPN := Lib.hid (fun (e : r = true) => nxt_pos (hr.trans e))
      replace HJ1 := Lib.hid (HJ1.out r hr.symm)
      replace HJ2 := Lib.hid (HJ2.out r hr.symm)
      rw [hr] at HGJ
      clear hr
      dsimp only at HJ1 HJ2 HGJ HPN f0 f1 f2 f3 f4 f5 f6
      injection hA1 with hA1
      injection hA1 with hA1 hA2 _
      subst hA1 hA2
      replace x0 := keepc HI.out x0
      replace x1 := keepc HI.out x1
      replace x2 := keepc HI.out x2
      replace x3 := keepc HI.out x3
      replace x4 := keepc HI.out x4
      replace x5 := keepc HI.out x5
      replace x6 := keepc HI.out x6
      go_upto_region 11 with fail
      have hb := below_new wr (.cells #[.int .i64 qi, .int .i64 qa, .int .i64 qb, .int .i64 qx, .int .i64 qy, .int .i64 qz, .int .i64 qk] 28)
      have y0 : World.cell? (wr.alloc (.cells #[.int .i64 qi, .int .i64 qa, .int .i64 qb, .int .i64 qx, .int .i64 qy, .int .i64 qz, .int .i64 qk] 28)) ⟨wr.heap.size, 0, none⟩ = some (.int .i64 qi) := by simp [go_sem]
      have y1 : World.cell? (wr.alloc (.cells #[.int .i64 qi, .int .i64 qa, .int .i64 qb, .int .i64 qx, .int .i64 qy, .int .i64 qz, .int .i64 qk] 28)) ⟨wr.heap.size, 1, none⟩ = some (.int .i64 qa) := by simp [go_sem]
      have y2 : World.cell? (wr.alloc (.cells #[.int .i64 qi, .int .i64 qa, .int .i64 qb, .int .i64 qx, .int .i64 qy, .int .i64 qz, .int .i64 qk] 28)) ⟨wr.heap.size, 2, none⟩ = some (.int .i64 qb) := by simp [go_sem]
      have y3 : World.cell? (wr.alloc (.cells #[.int .i64 qi, .int .i64 qa, .int .i64 qb, .int .i64 qx, .int .i64 qy, .int .i64 qz, .int .i64 qk] 28)) ⟨wr.heap.size, 3, none⟩ = some (.int .i64 qx) := by simp [go_sem]
      have y4 : World.cell? (wr.alloc (.cells #[.int .i64 qi, .int .i64 qa, .int .i64 qb, .int .i64 qx, .int .i64 qy, .int .i64 qz, .int .i64 qk] 28)) ⟨wr.heap.size, 4, none⟩ = some (.int .i64 qy) := by simp [go_sem]
      have y5 : World.cell? (wr.alloc (.cells #[.int .i64 qi, .int .i64 qa, .int .i64 qb, .int .i64 qx, .int .i64 qy, .int .i64 qz, .int .i64 qk] 28)) ⟨wr.heap.size, 5, none⟩ = some (.int .i64 qz) := by simp [go_sem]
      have y6 : World.cell? (wr.alloc (.cells #[.int .i64 qi, .int .i64 qa, .int .i64 qb, .int .i64 qx, .int .i64 qy, .int .i64 qz, .int .i64 qk] 28)) ⟨wr.heap.size, 6, none⟩ = some (.int .i64 qk) := by simp [go_sem]
      generalize wr.alloc (.cells #[.int .i64 qi, .int .i64 qa, .int .i64 qb, .int .i64 qx, .int .i64 qy, .int .i64 qz, .int .i64 qk] 28) = w50 at *
      replace x0 := keepc hb x0
      replace x1 := keepc hb x1
      replace x2 := keepc hb x2
      replace x3 := keepc hb x3
      replace x4 := keepc hb x4
      replace x5 := keepc hb x5
      replace x6 := keepc hb x6
      replace HSI := Lib.hid (HSI.out.below hb)
      replace HOW := Lib.hid (own_below HOW.out hb)
      replace HI := Lib.hid (on_below HI.out hb)
      clear hb f0 f1 f2 f3 f4 f5 f6
      go_wp2_with fail
      with_reducible refine (HJ1.out _ HSI.out).mono ?_
      rintro e_ w51 ⟨rfl, hb⟩
      replace x0 := keepc hb x0
      replace x1 := keepc hb x1
      replace x2 := keepc hb x2
      replace x3 := keepc hb x3
      replace x4 := keepc hb x4
      replace x5 := keepc hb x5
      replace x6 := keepc hb x6
      replace y0 := keepc hb y0
      replace y1 := keepc hb y1
      replace y2 := keepc hb y2
      replace y3 := keepc hb y3
      replace y4 := keepc hb y4
      replace y5 := keepc hb y5
      replace y6 := keepc hb y6
      replace HSI := Lib.hid (HSI.out.below hb)
      replace HOW := Lib.hid (own_below HOW.out hb)
      replace HI := Lib.hid (on_below HI.out hb)
      clear hb HJ1
      go_wp2_with fail
      with_reducible refine (HJ2.out _ HSI.out).mono ?_
      rintro e_ w52 ⟨rfl, hb⟩
      replace x0 := keepc hb x0
      replace x1 := keepc hb x1
      replace x2 := keepc hb x2
      replace x3 := keepc hb x3
      replace x4 := keepc hb x4
      replace x5 := keepc hb x5
      replace x6 := keepc hb x6
      replace y0 := keepc hb y0
      replace y1 := keepc hb y1
      replace y2 := keepc hb y2
      replace y3 := keepc hb y3
      replace y4 := keepc hb y4
      replace y5 := keepc hb y5
      replace y6 := keepc hb y6
      replace HSI := Lib.hid (HSI.out.below hb)
      replace HOW := Lib.hid (own_below HOW.out hb)
      replace HI := Lib.hid (on_below HI.out hb)
      clear hb HJ2
      cases r
      · have hY3 : Y = nrs l k (j + 1) := by rw [HGJ.out, ← HY.out]; simp
        have HY3 := Lib.hid hY3
        clear hY3 HGJ HPN
        go_wp2_with fail
        go_roundw
        case rel => exact ⟨rfl, j + 1, Y, hlj, int_of (by first | rfl | exact v1_ | exact v2_), HY3.out, hyl, HOW.out, HI.out⟩
        case measure => simp [intOf, v1_, v2_]; clear v1_ v2_; omega
      · have hY3 : Y ++ [qi] = nrs l k (j + 1) := by rw [HGJ.out, ← HY.out]; simp
        have HY3 := Lib.hid hY3
        have hyl2 : (Y ++ [qi]).length ≤ 2 := by rw [hY3]; exact NFK.out (j + 1) hlj
        have hm1 : Y.length + 1 ≤ maxLen := by unfold maxLen; omega
        have hm2 : (Y.length + 1) * 8 ≤ 140737488355328 := by omega
        have hne := fun W => pl_ne (pi := pi) (pa := pa) (pb := pb) (px := px) (py := py) (pz := pz) (pk := pk) (qi := qi) (qa := qa) (qb := qb) (qx := qx) (qy := qy) (qz := qz) (qk := qk) (HPN.out rfl) W
        clear hY3 HGJ HPN
        skip
        go_wp2_with (at_builtin; refine wpList_append_own _ rfl (.tmp 79) (.tmp 82) 34 rfl w40.heap.size 3 i0 (.int .i64 0) 1 8 Try.underlying34 hi0 hz0 hz1 hz2 rfl (by decide) _ _ _ rfl (HOW.out.alloc _) ⟨w52.heap.size, 0, none⟩ 1 1 [.int .i64 qi] rfl rfl (new_k _ _ _) one_k hm1 hm2 (by have := HI.out.size; simp <;> omega) ?_; intro v1 u1 own1_ gr1 nn1; clear nn1; have HB1 := Lib.hid (app_bel' HI.out HOW.out gr1); have HOW1 := Lib.hid (snoc_own own1_ rfl rfl); clear gr1 own1_)
        go_roundw
        case rel => exact ⟨rfl, j + 1, Y ++ [qi], hlj, int_of (by first | rfl | exact v1_ | exact v2_), HY3.out, hyl2, HOW1.out, HB1.out⟩
        case measure => simp [intOf, v1_, v2_]; clear v1_ v2_; omega
theorem law_any (lA : Option Addr) (lC : Nat) (l : List Pl) (w : World) (hl : LP w lA lC l) :
    Calls Try.prog 4 #[.slice lA l.length lC] w fun e_ w' => e_ = .returned (.bool true) ∧ Below w.heap.size w w' := by
  by_cases h : l.length ≤ 20
  · by_cases hok : PlOk3 l
    · exact bes_2 lA lC l h hok (fun k hk => (hl.fit k hk).1) w hl.sl
    · exact bes_1 lA lC l h hok w hl.sl
  · exact bes_0 lA lC l h w hl.sl
/-! ### The row -/
open Go.ChangeShapes Go.WideShapes Go.ChangeAt Go.Joins
theorem own : ownKnob Try.prog.godebug = none := by kernel_rfl
noncomputable def laidWorld (os : Os) : World := World.holding Try.prog os ⟨#[], #[], []⟩
theorem laidWorld_met (os : Os) (args : Array Value) : laidMet Try.prog [] ((laidWorld os).forCall (fun _ _ => 0) ⟨#[], args, []⟩).memory :=
  laidMet_of_run' 8 (by kernel_rfl) (by kernel_rfl)

set_option maxRecDepth 100000 in
theorem contract (H : Type) (enc : TypeId × Value → H) (W : World) (base : Nat) (args : Array Value) (ds gs : List (DataW H)) (before : List MemPlace)
    (hval : ∀ (j : Nat) t v, Try.f4.params[j]? = some t → args[j]? = some v → Value.okWide Try.prog W .any base t v)
    (hW : DataW.Whole enc Try.prog Try.f4.params.toList Rows.tiersBesideSpec.vars false W args.toList ds gs before) :
    Calls Try.prog 4 args W fun e W' => ∃ v, e = .returned v ∧ Rows.tiersBesideSpec.post enc Try.prog Try.f4 false true false false W args v W' := by
  have hW' := hW
  have hold : ∀ q ∈ before, decide (q.block < W.heap.size) = true := fun q hq => by simpa using hW.lt q hq
  obtain ⟨p, q, hA0, hV, rfl, hfz, hnd⟩ := hW
  have hA : DataW.TrodAll enc Try.prog W 0 (fun _ => true) true Try.f4.params.toList args.toList ds p := hA0
  rw [Try.params4] at hA hval
  obtain ⟨v0, vs0, d0, ds0, p0, q0, hargs, rfl, rfl, h0, r0⟩ := trodAll_cons hA
  obtain ⟨rfl, rfl, rfl⟩ := trodAll_nil r0
  obtain rfl : args = #[v0] := Array.toList_inj.1 hargs
  obtain ⟨rfl, rfl⟩ := trodVars_none hV
  obtain ⟨lA, lC, l, rfl, ll, shutl⟩ := open_plan (hval 0 22 v0 rfl rfl) h0
  clear hA0
  refine (law_any lA lC l W ll).mono fun e W' ⟨he, bel⟩ => ?_
  subst he
  exact ⟨_, rfl, _, _, _, [], _, [], hW', trodAll_mk1 (shut_bool Try.underlying4 _), (trodAll_cons_mk (shutl W' (fun b => decide (b < W.heap.size)) bel (fun q hq => hold q (by simp [hq]))) trodAll_mk0), rfl, bel.frame _, fun h => by cases h⟩

theorem reads (os : Os) {H : Type} (enc : TypeId × Value → H) : ∃ places, DataW.whole enc Try.prog ((laidWorld os).forCall (fun _ _ => 0) ⟨#[], #[.slice none 0 0], []⟩).memory Try.f4.params.toList Rows.tiersBesideSpec.vars false (#[.slice none 0 0] : Array Value).toList 8 = some ([.nil], [], places) :=
  ⟨[], by kernel_rfl⟩

set_option maxRecDepth 100000 in
theorem lifted (os : Os) (started : os.Started) (H : Type) (enc : TypeId × Value → H) (F : Stop.Interp) :
    ReturnsInHanded {} Try.checked os 4 .any ((OpenSpec.ofChange Rows.tiersBesideSpec).preRow enc Try.prog Try.f4 Rows.tiersBesideRow.domain false Rows.tiersBesideRow.laid) (((OpenSpec.ofChange Rows.tiersBesideSpec).at F).post enc Try.prog Try.f4 false true false false) := by
  obtain ⟨places, hx⟩ := reads os enc
  refine returnsInHanded_of_row (C := Try.checked) (s := OpenSpec.ofChange Rows.tiersBesideSpec) own started (by kernel_rfl) Try.func4
    (witness_row_atRef (enc := enc) (C := Try.checked) false (laidWorld os) #[.slice none 0 0] rfl (by kernel_rfl) (by kernel_rfl) (by kernel_rfl)
      (OpenSpec.preRow_of_cond 8 hx (by kernel_rfl) (fun k hk => by cases hk) (by kernel_rfl) (laidWorld_met os _))) ?_
  intro W base args ds gs before hval hW _ hcond _ hL hsh _
  exact contract H enc W base args ds gs before hval hW

/-- The statement. -/
theorem said : Rows.TiersBesideSaid :=
  OpenClaim.holds_of_cond 4 Try.f4 rfl rfl rfl rfl rfl rfl rfl ⟨rfl, rfl, rfl, rfl, rfl⟩ rfl rfl rfl rfl rfl (by kernel_rfl) Try.func4 (by kernel_rfl)
    (of_decide_eq_true (by kernel_rfl)) (by unfold Func.isWrapper; first | (rw [if_pos (by decide +kernel)]; kernel_rfl) | (rw [if_neg (by decide +kernel)]; exact ⟨rfl, rfl⟩))
    (fun os started H enc _ F => by rw [OpenClaim.pre_eq_preRow]; exact lifted os started H enc F)
end Go.Proofs.Ytgikpcoaennkgaa.LawBeside
