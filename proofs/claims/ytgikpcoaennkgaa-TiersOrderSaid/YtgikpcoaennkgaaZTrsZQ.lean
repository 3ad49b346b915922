/-
  The reference of layer 12: place. The reference of layer 12: Few, Index, Holds, Valid, SameInts, SameParts.
-/
import Derived.Test.YtgikpcoaennkgaaZTrsZB
import Derived.Test.YtgikpcoaennkgaaZSgtZV
import Derived.Deep.DeepCutAuto
namespace Go.Proofs.Ytgikpcoaennkgaa
open Go.RowKit Go.Sort
open Go.RowKit (Below)
set_option linter.unusedVariables false
set_option linter.unusedSimpArgs false
attribute [local go_sem] Oper.semAt_some

set_option maxRecDepth 100000 in
set_option maxHeartbeats 2000000 in
theorem qplc_w (pi pa pb px py pz pk : Int) (v d1 d2 b1 b2 : Bool) (hv : vv px py pz = v) (h1 : (decide (1 ≤ pi) && decide (pi ≤ 1000000)) = d1) (h2 : (rw_ pa && rw_ pb) = d2) (h3 : (pk == 1) = b1) (h4 : (pk == 2) = b2) (r : Bool) (hr : (v && d1 && d2 && (b1 || b2)) = r) (w : World) :
    Calls Try.prog 24 #[.agg #[.int .i64 pi, .int .i64 pa, .int .i64 pb, .int .i64 px, .int .i64 py, .int .i64 pz, .int .i64 pk]] w fun e_ w' => e_ = .returned (.bool r) ∧ Below w.heap.size w w' := by
  have K0 := Lib.hid (v7valid_is px py pz v hv)
  clear hv
  have H1 := Lib.hid h1
  clear h1
  have H2 := Lib.hid h2
  clear h2
  have H3 := Lib.hid h3
  clear h3
  have H4 := Lib.hid h4
  clear h4
  have HR := Lib.hid hr
  clear hr
  have p0 : World.cell? (w.alloc (.cells #[.int .i64 pi, .int .i64 pa, .int .i64 pb, .int .i64 px, .int .i64 py, .int .i64 pz, .int .i64 pk] 28)) ⟨w.heap.size, 0, none⟩ = some (.int .i64 pi) := by simp [go_sem]
  have p1 : World.cell? (w.alloc (.cells #[.int .i64 pi, .int .i64 pa, .int .i64 pb, .int .i64 px, .int .i64 py, .int .i64 pz, .int .i64 pk] 28)) ⟨w.heap.size, 1, none⟩ = some (.int .i64 pa) := by simp [go_sem]
  have p2 : World.cell? (w.alloc (.cells #[.int .i64 pi, .int .i64 pa, .int .i64 pb, .int .i64 px, .int .i64 py, .int .i64 pz, .int .i64 pk] 28)) ⟨w.heap.size, 2, none⟩ = some (.int .i64 pb) := by simp [go_sem]
  have p3 : World.cell? (w.alloc (.cells #[.int .i64 pi, .int .i64 pa, .int .i64 pb, .int .i64 px, .int .i64 py, .int .i64 pz, .int .i64 pk] 28)) ⟨w.heap.size, 3, none⟩ = some (.int .i64 px) := by simp [go_sem]
  have p4 : World.cell? (w.alloc (.cells #[.int .i64 pi, .int .i64 pa, .int .i64 pb, .int .i64 px, .int .i64 py, .int .i64 pz, .int .i64 pk] 28)) ⟨w.heap.size, 4, none⟩ = some (.int .i64 py) := by simp [go_sem]
  have p5 : World.cell? (w.alloc (.cells #[.int .i64 pi, .int .i64 pa, .int .i64 pb, .int .i64 px, .int .i64 py, .int .i64 pz, .int .i64 pk] 28)) ⟨w.heap.size, 5, none⟩ = some (.int .i64 pz) := by simp [go_sem]
  have p6 : World.cell? (w.alloc (.cells #[.int .i64 pi, .int .i64 pa, .int .i64 pb, .int .i64 px, .int .i64 py, .int .i64 pz, .int .i64 pk] 28)) ⟨w.heap.size, 6, none⟩ = some (.int .i64 pk) := by simp [go_sem]
  have lp : w.heap.size < (w.alloc (.cells #[.int .i64 pi, .int .i64 pa, .int .i64 pb, .int .i64 px, .int .i64 py, .int .i64 pz, .int .i64 pk] 28)).heap.size := by simp <;> omega
  have HB := Lib.hid (show Below w.heap.size w (w.alloc (.cells #[.int .i64 pi, .int .i64 pa, .int .i64 pb, .int .i64 px, .int .i64 py, .int .i64 pz, .int .i64 pk] 28)) from ((Below.refl _ _).alloc (by simp <;> omega) _))
  go_enter Try.func24, Try.ntmps24
  go_wp2_with fail
  generalize w.alloc (.cells #[.int .i64 pi, .int .i64 pa, .int .i64 pb, .int .i64 px, .int .i64 py, .int .i64 pz, .int .i64 pk] 28) = w1 at *
  with_reducible refine (K0.out _).mono ?_
  rintro e_ w2 ⟨rfl, hb⟩
  replace HB := Lib.hid (on_below HB.out hb)
  replace p0 := keepc hb p0
  replace p1 := keepc hb p1
  replace p2 := keepc hb p2
  replace p3 := keepc hb p3
  replace p4 := keepc hb p4
  replace p5 := keepc hb p5
  replace p6 := keepc hb p6
  replace lp := Nat.lt_of_lt_of_le lp hb.size
  clear hb
  clear K0
  go_upto_region 2 with fail
  go_cut [4] (fun s_ wx => s_ = .bool d1 ∧ wx = w2)
  case first =>
    clear H2 H3 H4 HR HB
    have h1 := H1.out
    clear H1
    go_wp2
    all_goals (go_meet; exact ⟨congrArg Value.bool (by rw [← h1, Bool.eq_iff_iff]; simp; try omega), rfl⟩)
  case rest =>
    obtain ⟨rfl, rfl⟩ := hcut
    clear H1
    go_upto_region 3 with fail
    go_cut [5] (fun s_ wx => s_ = .bool d2 ∧ wx = wc)
    case first =>
      clear H3 H4 HR HB
      have h2 := H2.out
      clear H2
      go_wp2
      all_goals (go_meet; exact ⟨congrArg Value.bool (by rw [← h2, Bool.eq_iff_iff]; simp [rw_]; try omega), rfl⟩)
    case rest =>
      obtain ⟨rfl, rfl⟩ := hcut
      clear H2
      have hr := HR.out
      have h3 := H3.out
      have h4 := H4.out
      clear HR H3 H4
      cases v
      · subst hr
        clear h3 h4
        go_wp2_with fail
        go_ret
        exact ⟨rfl, HB.out⟩
      cases d1
      · subst hr
        clear h3 h4
        go_wp2_with fail
        go_ret
        exact ⟨rfl, HB.out⟩
      cases d2
      · subst hr
        clear h3 h4
        go_wp2_with fail
        go_ret
        exact ⟨rfl, HB.out⟩
      cases b1
      · cases b2
        · subst hr
          go_wp2_with fail
          go_ret
          exact ⟨rfl, HB.out⟩
        · subst hr
          go_wp2_with fail
          go_ret
          exact ⟨rfl, HB.out⟩
      · subst hr
        go_wp2_with fail
        go_ret
        exact ⟨rfl, HB.out⟩
theorem qplc_is (p : Pl) (r : Bool) (hr : plOk p = r) (w : World) :
    Calls Try.prog 24 #[.agg #[.int .i64 p.id, .int .i64 p.row, .int .i64 p.pos, .int .i64 p.ex, .int .i64 p.ey, .int .i64 p.ez, .int .i64 p.kd]] w fun e_ w' => e_ = .returned (.bool r) ∧ Below w.heap.size w w' := by
  obtain ⟨pi, pa, pb, px, py, pz, pk⟩ := p
  refine qplc_w pi pa pb px py pz pk _ _ _ _ _ rfl rfl rfl rfl rfl r ?_ w
  rw [← hr]
  show _ = (vv px py pz && (decide (1 ≤ pi) && decide (pi ≤ 1000000)) && rw_ pa && rw_ pb && ((pk == 1) || (pk == 2)))
  simp only [Bool.and_assoc]
end Go.Proofs.Ytgikpcoaennkgaa

namespace Go.Proofs.Ytgikpcoaennkgaa
open Go.RowKit Go.Sort
open Go.RowKit (Below)
set_option linter.unusedVariables false
set_option linter.unusedSimpArgs false
attribute [local go_sem] Oper.semAt_some

theorem few12_is (A : Option Addr) (C : Nat) (L : List Pl) (r : Bool) (hr : decide (L.length ≤ 40) = r) (w : World) :
    Calls Try.prog 10 #[.slice A L.length C] w fun e_ w' => e_ = .returned (.bool r) ∧ Below w.heap.size w w' := by
  go_enter Try.func10, Try.ntmps10
  go_wp2
  all_goals (go_ret; exact ⟨ret_bool (by rw [← hr, Bool.eq_iff_iff]; simp; try omega), Below.refl _ _⟩)
/-- What Index answers. -/
def IxA (L : List Pl) (x r : Int) : Prop := (ixP L x < L.length ∧ r = (ixP L x : Int)) ∨ (ixP L x = L.length ∧ r = -1)
theorem IxA.ex (L : List Pl) (x : Int) : ∃ r, IxA L x r := by
  by_cases h : ixP L x < L.length
  · exact ⟨_, .inl ⟨h, rfl⟩⟩
  · exact ⟨_, .inr ⟨by have := ixP_le L x; omega, rfl⟩⟩
set_option maxRecDepth 100000 in
set_option maxHeartbeats 4000000 in
theorem qix_is (A : Option Addr) (C : Nat) (L : List Pl) (x : Int) (hlen : L.length ≤ 9223372036854775807) (r : Int) (hr : IxA L x r) (w : World) (hl : PlS w A L) :
    Calls Try.prog 13 #[.slice A L.length C, .int .i64 x] w fun e_ w' => e_ = .returned (.int .i64 r) ∧ Below w.heap.size w w' := by
  have HL := Lib.hid hl
  clear hl
  have HR := Lib.hid hr
  clear hr
  go_enter Try.func13, Try.ntmps13
  go_wp2_with fail
  go_loopw [5] (fun i wr => ∃ k : Nat, k ≤ L.length ∧ i = .int .i64 k ∧ Hid (∀ j, j < k → (gdP L j).id ≠ x) ∧ Hid (Below w.heap.size w wr)) (fun i _ => L.length - (intOf i).toNat)
  case atStart => exact ⟨0, Nat.zero_le _, rfl, (fun j hj => absurd hj (Nat.not_lt_zero j)), Below.refl _ _⟩
  case round =>
    obtain ⟨k, hk, rfl, HK, HW⟩ := hrel
    by_cases hlt : k < L.length
    rotate_left
    · have hi := ixP_none (x := x) (fun j hj => HK.out j (by omega))
      have hr : r = -1 := by
        rcases HR.out with ⟨h, _⟩ | ⟨_, h⟩
        · omega
        · exact h
      subst hr
      clear hi
      go_wp2_with fail
      go_ret
      exact ⟨rfl, HW.out⟩
    have w1_ : IntKind.i64.wrap ((k : Nat) + 1 : Int) = (k : Int) + 1 := IntWalk.i64_in _ ⟨by omega, by omega⟩
    have w2_ : wrap64 ((k : Nat) + 1 : Int) = (k : Int) + 1 := IntWalk.wrap64_in _ ⟨by omega, by omega⟩
    obtain ⟨b0, o0, rfl, e0, _⟩ := HL.out.below HW.out k hlt
    have HU := Lib.hid (show ∃ u, (gdP L k).id = u from ⟨_, rfl⟩)
    obtain ⟨u, hu⟩ := HU.out
    clear HU
    rw [hu] at e0
    have HU := Lib.hid hu
    clear hu
    by_cases hq : u = x
    · have z : (u == x) = true := by simp [hq]
      have hi : ixP L x = k := ixP_first hlt (by rw [HU.out]; exact hq) HK.out
      have hr : r = (k : Int) := by
        rcases HR.out with ⟨_, h⟩ | ⟨h, _⟩
        · rw [h, hi]
        · omega
      subst hr
      clear hi hq
      go_wp2_with fail
      go_ret
      exact ⟨rfl, HW.out⟩
    · have z : (u == x) = false := by simp [hq]
      have HQ := Lib.hid hq
      clear hq
      go_wp2_with fail
      go_roundw
      case rel => exact ⟨k + 1, hlt, int_of (by first | rfl | exact w1_ | exact w2_), (fun j hj => by by_cases e : j = k; (subst e; rw [HU.out]; exact HQ.out); exact HK.out j (by omega)), HW.out⟩
      case measure => simp [intOf, w1_, w2_]; clear w1_ w2_; omega
set_option maxRecDepth 100000 in
set_option maxHeartbeats 4000000 in
theorem qho_is (B : Option Addr) (D : Nat) (X : List Int) (x : Int) (hlen : X.length ≤ 9223372036854775807) (r : Bool) (hr : r = true ↔ x ∈ X) (w : World) (hl : InS w B X) :
    Calls Try.prog 16 #[.slice B X.length D, .int .i64 x] w fun e_ w' => e_ = .returned (.bool r) ∧ Below w.heap.size w w' := by
  have HL := Lib.hid hl
  clear hl
  have HR := Lib.hid hr
  clear hr
  go_enter Try.func16, Try.ntmps16
  go_wp2_with fail
  go_loopw [5] (fun i wr => ∃ k : Nat, k ≤ X.length ∧ i = .int .i64 k ∧ Hid (∀ j, j < k → gdI X j ≠ x) ∧ Hid (Below w.heap.size w wr)) (fun i _ => X.length - (intOf i).toNat)
  case atStart => exact ⟨0, Nat.zero_le _, rfl, (fun j hj => absurd hj (Nat.not_lt_zero j)), Below.refl _ _⟩
  case round =>
    obtain ⟨k, hk, rfl, HK, HW⟩ := hrel
    by_cases hlt : k < X.length
    rotate_left
    · obtain rfl := false_of (r := r) (fun e => by obtain ⟨j, hj, h⟩ := mem_gdI.1 (HR.out.1 e); exact HK.out j (by omega) h)
      go_wp2_with fail
      go_ret
      exact ⟨rfl, HW.out⟩
    have w1_ : IntKind.i64.wrap ((k : Nat) + 1 : Int) = (k : Int) + 1 := IntWalk.i64_in _ ⟨by omega, by omega⟩
    have w2_ : wrap64 ((k : Nat) + 1 : Int) = (k : Int) + 1 := IntWalk.wrap64_in _ ⟨by omega, by omega⟩
    obtain ⟨b0, o0, rfl, e0⟩ := HL.out.below HW.out k hlt
    have HU := Lib.hid (show ∃ u, gdI X k = u from ⟨_, rfl⟩)
    obtain ⟨u, hu⟩ := HU.out
    clear HU
    rw [hu] at e0
    have HU := Lib.hid hu
    clear hu
    by_cases hq : u = x
    · have z : (u == x) = true := by simp [hq]
      obtain rfl := true_of (HR.out.2 (mem_gdI.2 ⟨k, hlt, by rw [HU.out]; exact hq⟩))
      clear hq
      go_wp2_with fail
      go_ret
      exact ⟨rfl, HW.out⟩
    · have z : (u == x) = false := by simp [hq]
      have HQ := Lib.hid hq
      clear hq
      go_wp2_with fail
      go_roundw
      case rel => exact ⟨k + 1, hlt, int_of (by first | rfl | exact w1_ | exact w2_), (fun j hj => by by_cases e : j = k; (subst e; rw [HU.out]; exact HQ.out); exact HK.out j (by omega)), HW.out⟩
      case measure => simp [intOf, w1_, w2_]; clear w1_ w2_; omega
set_option maxRecDepth 100000 in
set_option maxHeartbeats 4000000 in
theorem qval_is (A : Option Addr) (C : Nat) (L : List Pl) (hlen : L.length ≤ 9223372036854775807) (r : Bool) (hr : r = true ↔ PlOk3 L) (w : World) (hl : PlS w A L) :
    Calls Try.prog 11 #[.slice A L.length C] w fun e_ w' => e_ = .returned (.bool r) ∧ Below w.heap.size w w' := by
  have HL := Lib.hid hl
  clear hl
  have HR := Lib.hid hr
  clear hr
  by_cases h300 : L.length ≤ 300
  rotate_left
  · obtain rfl := false_of (r := r) (fun e => h300 (HR.out.1 e).few)
    go_enter Try.func11, Try.ntmps11
    go_wp2_with fail
    go_ret
    exact ⟨rfl, Below.refl _ _⟩
  go_enter Try.func11, Try.ntmps11
  go_wp2_with fail
  go_loopw [3] (fun i wr => ∃ k : Nat, k ≤ L.length ∧ i = .int .i64 k ∧ Hid ((∀ j, j < k → plOk (gdP L j) = true) ∧ (∀ j, j + 1 < k → bhd (gdP L (j + 1)) (gdP L j) = true) ∧ Dst L k) ∧ Hid (Below w.heap.size w wr)) (fun i _ => L.length - (intOf i).toNat)
  case atStart => exact ⟨0, Nat.zero_le _, rfl, ⟨(fun j hj => absurd hj (Nat.not_lt_zero j)), (fun j hj => absurd hj (Nat.not_lt_zero _)), (fun i j _ hj => absurd hj (Nat.not_lt_zero j))⟩, Below.refl _ _⟩
  case round =>
    obtain ⟨k, hk, rfl, HK, HW⟩ := hrel
    by_cases hlt : k < L.length
    rotate_left
    · obtain rfl : k = L.length := by omega
      obtain rfl := true_of (HR.out.2 ⟨h300, HK.out.1, HK.out.2.1, HK.out.2.2⟩)
      go_wp2_with fail
      go_ret
      exact ⟨rfl, HW.out⟩
    have w1_ := wr_up (k := k) (by omega)
    have w2_ := wr_up' (k := k) (by omega)
    have HS := Lib.hid (HL.out.below HW.out)
    obtain ⟨b0, o0, rfl, e0, e1, e2, e3, e4, e5, e6⟩ := HS.out k hlt
    have HU := Lib.hid (show ∃ u, gdP L k = u from ⟨_, rfl⟩)
    obtain ⟨u, hu⟩ := HU.out
    clear HU
    rw [hu] at e0 e1 e2 e3 e4 e5 e6
    have HU := Lib.hid hu
    clear hu
    obtain ⟨pi, pa, pb, px, py, pz, pk⟩ := u
    dsimp only at e0 e1 e2 e3 e4 e5 e6
    obtain ⟨f_, hf⟩ := IxA.ex L pi
    have CX := Lib.hid (fun W (h : PlS W (some ⟨b0, o0, none⟩) L) => qix_is (some ⟨b0, o0, none⟩) C L pi hlen f_ hf W h)
    have HF := Lib.hid hf
    clear hf
    obtain ⟨v_, hv⟩ : ∃ v, plOk ⟨pi, pa, pb, px, py, pz, pk⟩ = v := ⟨_, rfl⟩
    have CP := Lib.hid (qplc_is ⟨pi, pa, pb, px, py, pz, pk⟩ v_ hv)
    have HV := Lib.hid hv
    clear hv
    cases v_
    · skip
      obtain rfl := false_of (r := r) (fun e => by have h := (HR.out.1 e).each k hlt; rw [HU.out, HV.out] at h; cases h)
      have HB := Lib.hid (Below.refl wr.heap.size wr)
      go_wp2_with fail
      with_reducible refine (CP.out _).mono ?_
      rintro e_ w21 ⟨rfl, hb⟩
      replace HB := Lib.hid (on_below HB.out hb)
      replace HS := Lib.hid (HS.out.below hb)
      replace e0 := keepc hb e0
      replace e1 := keepc hb e1
      replace e2 := keepc hb e2
      replace e3 := keepc hb e3
      replace e4 := keepc hb e4
      replace e5 := keepc hb e5
      replace e6 := keepc hb e6
      clear hb
      go_wp2_with fail
      with_reducible refine (CX.out _ HS.out).mono ?_
      rintro e_ w22 ⟨rfl, hb⟩
      replace HB := Lib.hid (on_below HB.out hb)
      replace HS := Lib.hid (HS.out.below hb)
      replace e0 := keepc hb e0
      replace e1 := keepc hb e1
      replace e2 := keepc hb e2
      replace e3 := keepc hb e3
      replace e4 := keepc hb e4
      replace e5 := keepc hb e5
      replace e6 := keepc hb e6
      clear hb
      go_wp2_with fail
      have kp : ∀ {Wq_ : World}, Below w22.heap.size w22 Wq_ → Wq_.cell? ⟨b0, o0 + k * 7, none⟩ = some (.int .i64 pi) := fun h => keepc h e0
      have hB : Below w22.heap.size w22 w22.drew := (Below.refl _ _).drew
      refine wp_region_held_drew (S := fun Wq_ => Wq_.cell? ⟨b0, o0 + k * 7, none⟩ = some (.int .i64 pi)) (by kernel_rfl) (kp (Below.refl _ _).drew) fun HL_ => ?_
      generalize w22.drew = wq0_ at *
      refine wpAnyH_take (i := 0) (v := .bool false) rfl (by kernel_rfl) (by kernel_rfl) (by kernel_rfl) (fun _ _ _ h => h) (Or.inl ⟨by kernel_rfl, ?_⟩) HL_ ?_
      · rintro Wl s0
        go_simp
      simp only [Act.put, List.getElem_toArray, List.getElem_cons_succ, List.getElem_cons_zero, List.setIfInBounds_toArray, List.set_cons_zero, List.set_cons_succ]
      refine wpAnyH_take (i := 1) (v := .bool true) rfl (by kernel_rfl) (by kernel_rfl) (by kernel_rfl) (fun _ _ _ h => h) (Or.inl ⟨by kernel_rfl, ?_⟩) HL_ ?_
      · rintro Wl s0
        go_simp
      simp only [Act.put, List.getElem_toArray, List.getElem_cons_succ, List.getElem_cons_zero, List.setIfInBounds_toArray, List.set_cons_zero, List.set_cons_succ]
      refine wpAnyH_take (i := 2) (v := .bool true) rfl (by kernel_rfl) (by kernel_rfl) (by kernel_rfl) (fun _ _ _ h => h) (Or.inl ⟨by kernel_rfl, ?_⟩) HL_ ?_
      · rintro Wl s0
        go_simp
      simp only [Act.put, List.getElem_toArray, List.getElem_cons_succ, List.getElem_cons_zero, List.setIfInBounds_toArray, List.set_cons_zero, List.set_cons_succ]
      refine wpAnyH_take (i := 3) (v := undef) rfl (by kernel_rfl) (by kernel_rfl) (by kernel_rfl) (fun _ _ _ h => h) (Or.inr ⟨by kernel_rfl, rfl⟩) HL_ ?_
      simp only [Act.put, List.getElem_toArray, List.getElem_cons_succ, List.getElem_cons_zero, List.setIfInBounds_toArray, List.set_cons_zero, List.set_cons_succ]
      refine wpAnyH_take (i := 4) (v := undef) rfl (by kernel_rfl) (by kernel_rfl) (by kernel_rfl) (fun _ _ _ h => h) (Or.inr ⟨by kernel_rfl, rfl⟩) HL_ ?_
      simp only [Act.put, List.getElem_toArray, List.getElem_cons_succ, List.getElem_cons_zero, List.setIfInBounds_toArray, List.set_cons_zero, List.set_cons_succ]
      refine wpAnyH_take (i := 5) (v := undef) rfl (by kernel_rfl) (by kernel_rfl) (by kernel_rfl) (fun _ _ _ h => h) (Or.inr ⟨by kernel_rfl, rfl⟩) HL_ ?_
      simp only [Act.put, List.getElem_toArray, List.getElem_cons_succ, List.getElem_cons_zero, List.setIfInBounds_toArray, List.set_cons_zero, List.set_cons_succ]
      refine wpAnyH_take (i := 6) (v := .bool true) rfl (by kernel_rfl) (by kernel_rfl) (by kernel_rfl) (fun _ _ _ h => h) (Or.inl ⟨by kernel_rfl, ?_⟩) HL_ ?_
      · rintro Wl s0
        go_simp
      simp only [Act.put, List.getElem_toArray, List.getElem_cons_succ, List.getElem_cons_zero, List.setIfInBounds_toArray, List.set_cons_zero, List.set_cons_succ]
      refine wpAnyH_take (i := 7) (v := .bool true) rfl (by kernel_rfl) (by kernel_rfl) (by kernel_rfl) (fun _ _ _ h => h) (Or.inl ⟨by kernel_rfl, ?_⟩) HL_ ?_
      · rintro Wl s0
        go_simp
      simp only [Act.put, List.getElem_toArray, List.getElem_cons_succ, List.getElem_cons_zero, List.setIfInBounds_toArray, List.set_cons_zero, List.set_cons_succ]
      refine wpAnyH_take (i := 8) (v := undef) rfl (by kernel_rfl) (by kernel_rfl) (by kernel_rfl) (fun _ _ _ h => h) (Or.inr ⟨by kernel_rfl, rfl⟩) HL_ ?_
      simp only [Act.put, List.getElem_toArray, List.getElem_cons_succ, List.getElem_cons_zero, List.setIfInBounds_toArray, List.set_cons_zero, List.set_cons_succ]
      refine wpAnyH_take (i := 9) (v := undef) rfl (by kernel_rfl) (by kernel_rfl) (by kernel_rfl) (fun _ _ _ h => h) (Or.inr ⟨by kernel_rfl, rfl⟩) HL_ ?_
      simp only [Act.put, List.getElem_toArray, List.getElem_cons_succ, List.getElem_cons_zero, List.setIfInBounds_toArray, List.set_cons_zero, List.set_cons_succ]
      refine wpAnyH_take (i := 10) (v := undef) rfl (by kernel_rfl) (by kernel_rfl) (by kernel_rfl) (fun _ _ _ h => h) (Or.inr ⟨by kernel_rfl, rfl⟩) HL_ ?_
      simp only [Act.put, List.getElem_toArray, List.getElem_cons_succ, List.getElem_cons_zero, List.setIfInBounds_toArray, List.set_cons_zero, List.set_cons_succ]
      refine wpAnyH_take (i := 11) (v := undef) rfl (by kernel_rfl) (by kernel_rfl) (by kernel_rfl) (fun _ _ _ h => h) (Or.inr ⟨by kernel_rfl, rfl⟩) HL_ ?_
      simp only [Act.put, List.getElem_toArray, List.getElem_cons_succ, List.getElem_cons_zero, List.setIfInBounds_toArray, List.set_cons_zero, List.set_cons_succ]
      refine wpAnyH_take (i := 12) (v := undef) rfl (by kernel_rfl) (by kernel_rfl) (by kernel_rfl) (fun _ _ _ h => h) (Or.inr ⟨by kernel_rfl, rfl⟩) HL_ ?_
      simp only [Act.put, List.getElem_toArray, List.getElem_cons_succ, List.getElem_cons_zero, List.setIfInBounds_toArray, List.set_cons_zero, List.set_cons_succ]
      refine wpAnyH_take (i := 13) (v := undef) rfl (by kernel_rfl) (by kernel_rfl) (by kernel_rfl) (fun _ _ _ h => h) (Or.inr ⟨by kernel_rfl, rfl⟩) HL_ ?_
      simp only [Act.put, List.getElem_toArray, List.getElem_cons_succ, List.getElem_cons_zero, List.setIfInBounds_toArray, List.set_cons_zero, List.set_cons_succ]
      refine wpAnyH_take (i := 14) (v := undef) rfl (by kernel_rfl) (by kernel_rfl) (by kernel_rfl) (fun _ _ _ h => h) (Or.inr ⟨by kernel_rfl, rfl⟩) HL_ ?_
      simp only [Act.put, List.getElem_toArray, List.getElem_cons_succ, List.getElem_cons_zero, List.setIfInBounds_toArray, List.set_cons_zero, List.set_cons_succ]
      refine wpAnyH_take (i := 15) (v := undef) rfl (by kernel_rfl) (by kernel_rfl) (by kernel_rfl) (fun _ _ _ h => h) (Or.inr ⟨by kernel_rfl, rfl⟩) HL_ ?_
      simp only [Act.put, List.getElem_toArray, List.getElem_cons_succ, List.getElem_cons_zero, List.setIfInBounds_toArray, List.set_cons_zero, List.set_cons_succ]
      refine wpAnyH_take (i := 16) (v := undef) rfl (by kernel_rfl) (by kernel_rfl) (by kernel_rfl) (fun _ _ _ h => h) (Or.inr ⟨by kernel_rfl, rfl⟩) HL_ ?_
      simp only [Act.put, List.getElem_toArray, List.getElem_cons_succ, List.getElem_cons_zero, List.setIfInBounds_toArray, List.set_cons_zero, List.set_cons_succ]
      refine wpAnyH_take (i := 17) (v := undef) rfl (by kernel_rfl) (by kernel_rfl) (by kernel_rfl) (fun _ _ _ h => h) (Or.inr ⟨by kernel_rfl, rfl⟩) HL_ ?_
      simp only [Act.put, List.getElem_toArray, List.getElem_cons_succ, List.getElem_cons_zero, List.setIfInBounds_toArray, List.set_cons_zero, List.set_cons_succ]
      refine wpAnyH_take (i := 18) (v := undef) rfl (by kernel_rfl) (by kernel_rfl) (by kernel_rfl) (fun _ _ _ h => h) (Or.inr ⟨by kernel_rfl, rfl⟩) HL_ ?_
      simp only [Act.put, List.getElem_toArray, List.getElem_cons_succ, List.getElem_cons_zero, List.setIfInBounds_toArray, List.set_cons_zero, List.set_cons_succ]
      refine wpAnyH_take (i := 19) (v := undef) rfl (by kernel_rfl) (by kernel_rfl) (by kernel_rfl) (fun _ _ _ h => h) (Or.inr ⟨by kernel_rfl, rfl⟩) HL_ ?_
      simp only [Act.put, List.getElem_toArray, List.getElem_cons_succ, List.getElem_cons_zero, List.setIfInBounds_toArray, List.set_cons_zero, List.set_cons_succ]
      refine wpAnyH_take (i := 20) (v := undef) rfl (by kernel_rfl) (by kernel_rfl) (by kernel_rfl) (fun _ _ _ h => h) (Or.inr ⟨by kernel_rfl, rfl⟩) HL_ ?_
      simp only [Act.put, List.getElem_toArray, List.getElem_cons_succ, List.getElem_cons_zero, List.setIfInBounds_toArray, List.set_cons_zero, List.set_cons_succ]
      refine wpAnyH_take (i := 21) (v := undef) rfl (by kernel_rfl) (by kernel_rfl) (by kernel_rfl) (fun _ _ _ h => h) (Or.inr ⟨by kernel_rfl, rfl⟩) HL_ ?_
      simp only [Act.put, List.getElem_toArray, List.getElem_cons_succ, List.getElem_cons_zero, List.setIfInBounds_toArray, List.set_cons_zero, List.set_cons_succ]
      refine wpAnyH_take (i := 22) (v := undef) rfl (by kernel_rfl) (by kernel_rfl) (by kernel_rfl) (fun _ _ _ h => h) (Or.inr ⟨by kernel_rfl, rfl⟩) HL_ ?_
      simp only [Act.put, List.getElem_toArray, List.getElem_cons_succ, List.getElem_cons_zero, List.setIfInBounds_toArray, List.set_cons_zero, List.set_cons_succ]
      refine wpAnyH_take (i := 23) (v := .bool true) rfl (by kernel_rfl) (by kernel_rfl) (by kernel_rfl) (fun _ _ _ h => h) (Or.inl ⟨by kernel_rfl, ?_⟩) HL_ ?_
      · rintro Wl s0
        go_simp
      simp only [Act.put, List.getElem_toArray, List.getElem_cons_succ, List.getElem_cons_zero, List.setIfInBounds_toArray, List.set_cons_zero, List.set_cons_succ]
      refine wpAnyH_done (by kernel_rfl) ?_ _
      clear HL_ kp
      generalize wq0_ = wh at *
      go_wp2_with fail
      go_ret
      exact ⟨rfl, HW.out.trans ((on_below HB.out hB).mono HW.out.size)⟩
    by_cases hfk : f_ = (k : Int)
    rotate_left
    · skip
      obtain rfl := false_of (r := r) (fun e => by
        have h := ixP_at (HR.out.1 e).dst hlt
        rw [HU.out] at h
        rcases HF.out with ⟨_, h2⟩ | ⟨h1, _⟩
        · exact hfk (by rw [h2]; exact congrArg _ h)
        · have h3 : ixP L pi = k := h
          omega)
      have zf : (f_ != (k : Int)) = true := by simp [hfk]
      have HB := Lib.hid (Below.refl wr.heap.size wr)
      go_wp2_with fail
      with_reducible refine (CP.out _).mono ?_
      rintro e_ w21 ⟨rfl, hb⟩
      replace HB := Lib.hid (on_below HB.out hb)
      replace HS := Lib.hid (HS.out.below hb)
      replace e0 := keepc hb e0
      replace e1 := keepc hb e1
      replace e2 := keepc hb e2
      replace e3 := keepc hb e3
      replace e4 := keepc hb e4
      replace e5 := keepc hb e5
      replace e6 := keepc hb e6
      clear hb
      go_wp2_with fail
      with_reducible refine (CX.out _ HS.out).mono ?_
      rintro e_ w22 ⟨rfl, hb⟩
      replace HB := Lib.hid (on_below HB.out hb)
      replace HS := Lib.hid (HS.out.below hb)
      replace e0 := keepc hb e0
      replace e1 := keepc hb e1
      replace e2 := keepc hb e2
      replace e3 := keepc hb e3
      replace e4 := keepc hb e4
      replace e5 := keepc hb e5
      replace e6 := keepc hb e6
      clear hb
      go_wp2_with fail
      have kp : ∀ {Wq_ : World}, Below w22.heap.size w22 Wq_ → Wq_.cell? ⟨b0, o0 + k * 7, none⟩ = some (.int .i64 pi) := fun h => keepc h e0
      have hB : Below w22.heap.size w22 w22.drew := (Below.refl _ _).drew
      refine wp_region_held_drew (S := fun Wq_ => Wq_.cell? ⟨b0, o0 + k * 7, none⟩ = some (.int .i64 pi)) (by kernel_rfl) (kp (Below.refl _ _).drew) fun HL_ => ?_
      generalize w22.drew = wq0_ at *
      refine wpAnyH_take (i := 0) (v := .bool true) rfl (by kernel_rfl) (by kernel_rfl) (by kernel_rfl) (fun _ _ _ h => h) (Or.inl ⟨by kernel_rfl, ?_⟩) HL_ ?_
      · rintro Wl s0
        go_simp
      simp only [Act.put, List.getElem_toArray, List.getElem_cons_succ, List.getElem_cons_zero, List.setIfInBounds_toArray, List.set_cons_zero, List.set_cons_succ]
      refine wpAnyH_take (i := 1) (v := .bool false) rfl (by kernel_rfl) (by kernel_rfl) (by kernel_rfl) (fun _ _ _ h => h) (Or.inl ⟨by kernel_rfl, ?_⟩) HL_ ?_
      · rintro Wl s0
        go_simp
      simp only [Act.put, List.getElem_toArray, List.getElem_cons_succ, List.getElem_cons_zero, List.setIfInBounds_toArray, List.set_cons_zero, List.set_cons_succ]
      refine wpAnyH_take (i := 2) (v := .bool false) rfl (by kernel_rfl) (by kernel_rfl) (by kernel_rfl) (fun _ _ _ h => h) (Or.inl ⟨by kernel_rfl, ?_⟩) HL_ ?_
      · rintro Wl s0
        go_simp
      simp only [Act.put, List.getElem_toArray, List.getElem_cons_succ, List.getElem_cons_zero, List.setIfInBounds_toArray, List.set_cons_zero, List.set_cons_succ]
      refine wpAnyH_take (i := 3) (v := .int .i64 f_) rfl (by kernel_rfl) (by kernel_rfl) (by kernel_rfl) (fun _ _ _ h => h) (Or.inl ⟨by kernel_rfl, ?_⟩) HL_ ?_
      · rintro Wl s0
        go_simp
      simp only [Act.put, List.getElem_toArray, List.getElem_cons_succ, List.getElem_cons_zero, List.setIfInBounds_toArray, List.set_cons_zero, List.set_cons_succ]
      refine wpAnyH_take (i := 4) (v := .int .i64 (k : Int)) rfl (by kernel_rfl) (by kernel_rfl) (by kernel_rfl) (fun _ _ _ h => h) (Or.inl ⟨by kernel_rfl, ?_⟩) HL_ ?_
      · rintro Wl s0
        go_simp
      simp only [Act.put, List.getElem_toArray, List.getElem_cons_succ, List.getElem_cons_zero, List.setIfInBounds_toArray, List.set_cons_zero, List.set_cons_succ]
      refine wpAnyH_take (i := 5) (v := .bool true) rfl (by kernel_rfl) (by kernel_rfl) (by kernel_rfl) (fun _ _ _ h => h) (Or.inl ⟨by kernel_rfl, ?_⟩) HL_ ?_
      · rintro Wl s0
        go_simp
      simp only [Act.put, List.getElem_toArray, List.getElem_cons_succ, List.getElem_cons_zero, List.setIfInBounds_toArray, List.set_cons_zero, List.set_cons_succ]
      refine wpAnyH_take (i := 6) (v := .bool true) rfl (by kernel_rfl) (by kernel_rfl) (by kernel_rfl) (fun _ _ _ h => h) (Or.inl ⟨by kernel_rfl, ?_⟩) HL_ ?_
      · rintro Wl s0
        go_simp
      simp only [Act.put, List.getElem_toArray, List.getElem_cons_succ, List.getElem_cons_zero, List.setIfInBounds_toArray, List.set_cons_zero, List.set_cons_succ]
      refine wpAnyH_take (i := 7) (v := .bool true) rfl (by kernel_rfl) (by kernel_rfl) (by kernel_rfl) (fun _ _ _ h => h) (Or.inl ⟨by kernel_rfl, ?_⟩) HL_ ?_
      · rintro Wl s0
        go_simp
      simp only [Act.put, List.getElem_toArray, List.getElem_cons_succ, List.getElem_cons_zero, List.setIfInBounds_toArray, List.set_cons_zero, List.set_cons_succ]
      refine wpAnyH_take (i := 8) (v := undef) rfl (by kernel_rfl) (by kernel_rfl) (by kernel_rfl) (fun _ _ _ h => h) (Or.inr ⟨by kernel_rfl, rfl⟩) HL_ ?_
      simp only [Act.put, List.getElem_toArray, List.getElem_cons_succ, List.getElem_cons_zero, List.setIfInBounds_toArray, List.set_cons_zero, List.set_cons_succ]
      refine wpAnyH_take (i := 9) (v := undef) rfl (by kernel_rfl) (by kernel_rfl) (by kernel_rfl) (fun _ _ _ h => h) (Or.inr ⟨by kernel_rfl, rfl⟩) HL_ ?_
      simp only [Act.put, List.getElem_toArray, List.getElem_cons_succ, List.getElem_cons_zero, List.setIfInBounds_toArray, List.set_cons_zero, List.set_cons_succ]
      refine wpAnyH_take (i := 10) (v := undef) rfl (by kernel_rfl) (by kernel_rfl) (by kernel_rfl) (fun _ _ _ h => h) (Or.inr ⟨by kernel_rfl, rfl⟩) HL_ ?_
      simp only [Act.put, List.getElem_toArray, List.getElem_cons_succ, List.getElem_cons_zero, List.setIfInBounds_toArray, List.set_cons_zero, List.set_cons_succ]
      refine wpAnyH_take (i := 11) (v := undef) rfl (by kernel_rfl) (by kernel_rfl) (by kernel_rfl) (fun _ _ _ h => h) (Or.inr ⟨by kernel_rfl, rfl⟩) HL_ ?_
      simp only [Act.put, List.getElem_toArray, List.getElem_cons_succ, List.getElem_cons_zero, List.setIfInBounds_toArray, List.set_cons_zero, List.set_cons_succ]
      refine wpAnyH_take (i := 12) (v := undef) rfl (by kernel_rfl) (by kernel_rfl) (by kernel_rfl) (fun _ _ _ h => h) (Or.inr ⟨by kernel_rfl, rfl⟩) HL_ ?_
      simp only [Act.put, List.getElem_toArray, List.getElem_cons_succ, List.getElem_cons_zero, List.setIfInBounds_toArray, List.set_cons_zero, List.set_cons_succ]
      refine wpAnyH_take (i := 13) (v := undef) rfl (by kernel_rfl) (by kernel_rfl) (by kernel_rfl) (fun _ _ _ h => h) (Or.inr ⟨by kernel_rfl, rfl⟩) HL_ ?_
      simp only [Act.put, List.getElem_toArray, List.getElem_cons_succ, List.getElem_cons_zero, List.setIfInBounds_toArray, List.set_cons_zero, List.set_cons_succ]
      refine wpAnyH_take (i := 14) (v := undef) rfl (by kernel_rfl) (by kernel_rfl) (by kernel_rfl) (fun _ _ _ h => h) (Or.inr ⟨by kernel_rfl, rfl⟩) HL_ ?_
      simp only [Act.put, List.getElem_toArray, List.getElem_cons_succ, List.getElem_cons_zero, List.setIfInBounds_toArray, List.set_cons_zero, List.set_cons_succ]
      refine wpAnyH_take (i := 15) (v := undef) rfl (by kernel_rfl) (by kernel_rfl) (by kernel_rfl) (fun _ _ _ h => h) (Or.inr ⟨by kernel_rfl, rfl⟩) HL_ ?_
      simp only [Act.put, List.getElem_toArray, List.getElem_cons_succ, List.getElem_cons_zero, List.setIfInBounds_toArray, List.set_cons_zero, List.set_cons_succ]
      refine wpAnyH_take (i := 16) (v := undef) rfl (by kernel_rfl) (by kernel_rfl) (by kernel_rfl) (fun _ _ _ h => h) (Or.inr ⟨by kernel_rfl, rfl⟩) HL_ ?_
      simp only [Act.put, List.getElem_toArray, List.getElem_cons_succ, List.getElem_cons_zero, List.setIfInBounds_toArray, List.set_cons_zero, List.set_cons_succ]
      refine wpAnyH_take (i := 17) (v := undef) rfl (by kernel_rfl) (by kernel_rfl) (by kernel_rfl) (fun _ _ _ h => h) (Or.inr ⟨by kernel_rfl, rfl⟩) HL_ ?_
      simp only [Act.put, List.getElem_toArray, List.getElem_cons_succ, List.getElem_cons_zero, List.setIfInBounds_toArray, List.set_cons_zero, List.set_cons_succ]
      refine wpAnyH_take (i := 18) (v := undef) rfl (by kernel_rfl) (by kernel_rfl) (by kernel_rfl) (fun _ _ _ h => h) (Or.inr ⟨by kernel_rfl, rfl⟩) HL_ ?_
      simp only [Act.put, List.getElem_toArray, List.getElem_cons_succ, List.getElem_cons_zero, List.setIfInBounds_toArray, List.set_cons_zero, List.set_cons_succ]
      refine wpAnyH_take (i := 19) (v := undef) rfl (by kernel_rfl) (by kernel_rfl) (by kernel_rfl) (fun _ _ _ h => h) (Or.inr ⟨by kernel_rfl, rfl⟩) HL_ ?_
      simp only [Act.put, List.getElem_toArray, List.getElem_cons_succ, List.getElem_cons_zero, List.setIfInBounds_toArray, List.set_cons_zero, List.set_cons_succ]
      refine wpAnyH_take (i := 20) (v := undef) rfl (by kernel_rfl) (by kernel_rfl) (by kernel_rfl) (fun _ _ _ h => h) (Or.inr ⟨by kernel_rfl, rfl⟩) HL_ ?_
      simp only [Act.put, List.getElem_toArray, List.getElem_cons_succ, List.getElem_cons_zero, List.setIfInBounds_toArray, List.set_cons_zero, List.set_cons_succ]
      refine wpAnyH_take (i := 21) (v := undef) rfl (by kernel_rfl) (by kernel_rfl) (by kernel_rfl) (fun _ _ _ h => h) (Or.inr ⟨by kernel_rfl, rfl⟩) HL_ ?_
      simp only [Act.put, List.getElem_toArray, List.getElem_cons_succ, List.getElem_cons_zero, List.setIfInBounds_toArray, List.set_cons_zero, List.set_cons_succ]
      refine wpAnyH_take (i := 22) (v := undef) rfl (by kernel_rfl) (by kernel_rfl) (by kernel_rfl) (fun _ _ _ h => h) (Or.inr ⟨by kernel_rfl, rfl⟩) HL_ ?_
      simp only [Act.put, List.getElem_toArray, List.getElem_cons_succ, List.getElem_cons_zero, List.setIfInBounds_toArray, List.set_cons_zero, List.set_cons_succ]
      refine wpAnyH_take (i := 23) (v := .bool true) rfl (by kernel_rfl) (by kernel_rfl) (by kernel_rfl) (fun _ _ _ h => h) (Or.inl ⟨by kernel_rfl, ?_⟩) HL_ ?_
      · rintro Wl s0
        go_simp
      simp only [Act.put, List.getElem_toArray, List.getElem_cons_succ, List.getElem_cons_zero, List.setIfInBounds_toArray, List.set_cons_zero, List.set_cons_succ]
      refine wpAnyH_done (by kernel_rfl) ?_ _
      clear HL_ kp
      generalize wq0_ = wh at *
      go_wp2_with fail
      go_ret
      exact ⟨rfl, HW.out.trans ((on_below HB.out hB).mono HW.out.size)⟩
    have hdst : Dst L (k + 1) := Dst.succ.2 ⟨HK.out.2.2, by
      rintro ⟨j, hj, e⟩
      rw [HU.out] at e
      rcases HF.out with ⟨_, h2⟩ | ⟨_, h2⟩
      · exact ixP_before (L := L) (x := pi) (j := j) (by omega) e
      · omega⟩
    have HD := Lib.hid hdst
    clear hdst
    subst hfk
    by_cases h0 : 0 < k
    rotate_left
    · have hz : ¬ (0 : Int) < (k : Int) := by omega
      have HB := Lib.hid (Below.refl wr.heap.size wr)
      go_wp2_with fail
      with_reducible refine (CP.out _).mono ?_
      rintro e_ w21 ⟨rfl, hb⟩
      replace HB := Lib.hid (on_below HB.out hb)
      replace HS := Lib.hid (HS.out.below hb)
      replace e0 := keepc hb e0
      replace e1 := keepc hb e1
      replace e2 := keepc hb e2
      replace e3 := keepc hb e3
      replace e4 := keepc hb e4
      replace e5 := keepc hb e5
      replace e6 := keepc hb e6
      clear hb
      go_wp2_with fail
      with_reducible refine (CX.out _ HS.out).mono ?_
      rintro e_ w22 ⟨rfl, hb⟩
      replace HB := Lib.hid (on_below HB.out hb)
      replace HS := Lib.hid (HS.out.below hb)
      replace e0 := keepc hb e0
      replace e1 := keepc hb e1
      replace e2 := keepc hb e2
      replace e3 := keepc hb e3
      replace e4 := keepc hb e4
      replace e5 := keepc hb e5
      replace e6 := keepc hb e6
      clear hb
      go_wp2_with fail
      have kp : ∀ {Wq_ : World}, Below w22.heap.size w22 Wq_ → Wq_.cell? ⟨b0, o0 + k * 7, none⟩ = some (.int .i64 pi) := fun h => keepc h e0
      have hB : Below w22.heap.size w22 w22.drew := (Below.refl _ _).drew
      refine wp_region_held_drew (S := fun Wq_ => Wq_.cell? ⟨b0, o0 + k * 7, none⟩ = some (.int .i64 pi)) (by kernel_rfl) (kp (Below.refl _ _).drew) fun HL_ => ?_
      generalize w22.drew = wq0_ at *
      refine wpAnyH_take (i := 0) (v := .bool true) rfl (by kernel_rfl) (by kernel_rfl) (by kernel_rfl) (fun _ _ _ h => h) (Or.inl ⟨by kernel_rfl, ?_⟩) HL_ ?_
      · rintro Wl s0
        go_simp
      simp only [Act.put, List.getElem_toArray, List.getElem_cons_succ, List.getElem_cons_zero, List.setIfInBounds_toArray, List.set_cons_zero, List.set_cons_succ]
      refine wpAnyH_take (i := 1) (v := .bool false) rfl (by kernel_rfl) (by kernel_rfl) (by kernel_rfl) (fun _ _ _ h => h) (Or.inl ⟨by kernel_rfl, ?_⟩) HL_ ?_
      · rintro Wl s0
        go_simp
      simp only [Act.put, List.getElem_toArray, List.getElem_cons_succ, List.getElem_cons_zero, List.setIfInBounds_toArray, List.set_cons_zero, List.set_cons_succ]
      refine wpAnyH_take (i := 2) (v := .bool false) rfl (by kernel_rfl) (by kernel_rfl) (by kernel_rfl) (fun _ _ _ h => h) (Or.inl ⟨by kernel_rfl, ?_⟩) HL_ ?_
      · rintro Wl s0
        go_simp
      simp only [Act.put, List.getElem_toArray, List.getElem_cons_succ, List.getElem_cons_zero, List.setIfInBounds_toArray, List.set_cons_zero, List.set_cons_succ]
      refine wpAnyH_take (i := 3) (v := .int .i64 (k : Int)) rfl (by kernel_rfl) (by kernel_rfl) (by kernel_rfl) (fun _ _ _ h => h) (Or.inl ⟨by kernel_rfl, ?_⟩) HL_ ?_
      · rintro Wl s0
        go_simp
      simp only [Act.put, List.getElem_toArray, List.getElem_cons_succ, List.getElem_cons_zero, List.setIfInBounds_toArray, List.set_cons_zero, List.set_cons_succ]
      refine wpAnyH_take (i := 4) (v := .int .i64 (k : Int)) rfl (by kernel_rfl) (by kernel_rfl) (by kernel_rfl) (fun _ _ _ h => h) (Or.inl ⟨by kernel_rfl, ?_⟩) HL_ ?_
      · rintro Wl s0
        go_simp
      simp only [Act.put, List.getElem_toArray, List.getElem_cons_succ, List.getElem_cons_zero, List.setIfInBounds_toArray, List.set_cons_zero, List.set_cons_succ]
      refine wpAnyH_take (i := 5) (v := .bool false) rfl (by kernel_rfl) (by kernel_rfl) (by kernel_rfl) (fun _ _ _ h => h) (Or.inl ⟨by kernel_rfl, ?_⟩) HL_ ?_
      · rintro Wl s0
        go_simp
      simp only [Act.put, List.getElem_toArray, List.getElem_cons_succ, List.getElem_cons_zero, List.setIfInBounds_toArray, List.set_cons_zero, List.set_cons_succ]
      refine wpAnyH_take (i := 6) (v := .bool false) rfl (by kernel_rfl) (by kernel_rfl) (by kernel_rfl) (fun _ _ _ h => h) (Or.inl ⟨by kernel_rfl, ?_⟩) HL_ ?_
      · rintro Wl s0
        go_simp
      simp only [Act.put, List.getElem_toArray, List.getElem_cons_succ, List.getElem_cons_zero, List.setIfInBounds_toArray, List.set_cons_zero, List.set_cons_succ]
      refine wpAnyH_take (i := 7) (v := .bool false) rfl (by kernel_rfl) (by kernel_rfl) (by kernel_rfl) (fun _ _ _ h => h) (Or.inl ⟨by kernel_rfl, ?_⟩) HL_ ?_
      · rintro Wl s0
        go_simp
      simp only [Act.put, List.getElem_toArray, List.getElem_cons_succ, List.getElem_cons_zero, List.setIfInBounds_toArray, List.set_cons_zero, List.set_cons_succ]
      refine wpAnyH_take (i := 8) (v := .int .i64 (k : Int)) rfl (by kernel_rfl) (by kernel_rfl) (by kernel_rfl) (fun _ _ _ h => h) (Or.inl ⟨by kernel_rfl, ?_⟩) HL_ ?_
      · rintro Wl s0
        go_simp
      simp only [Act.put, List.getElem_toArray, List.getElem_cons_succ, List.getElem_cons_zero, List.setIfInBounds_toArray, List.set_cons_zero, List.set_cons_succ]
      refine wpAnyH_take (i := 9) (v := .bool false) rfl (by kernel_rfl) (by kernel_rfl) (by kernel_rfl) (fun _ _ _ h => h) (Or.inl ⟨by kernel_rfl, ?_⟩) HL_ ?_
      · rintro Wl s0
        go_simp
      simp only [Act.put, List.getElem_toArray, List.getElem_cons_succ, List.getElem_cons_zero, List.setIfInBounds_toArray, List.set_cons_zero, List.set_cons_succ]
      refine wpAnyH_take (i := 10) (v := .bool false) rfl (by kernel_rfl) (by kernel_rfl) (by kernel_rfl) (fun _ _ _ h => h) (Or.inl ⟨by kernel_rfl, ?_⟩) HL_ ?_
      · rintro Wl s0
        go_simp
      simp only [Act.put, List.getElem_toArray, List.getElem_cons_succ, List.getElem_cons_zero, List.setIfInBounds_toArray, List.set_cons_zero, List.set_cons_succ]
      refine wpAnyH_take (i := 11) (v := undef) rfl (by kernel_rfl) (by kernel_rfl) (by kernel_rfl) (fun _ _ _ h => h) (Or.inr ⟨by kernel_rfl, rfl⟩) HL_ ?_
      simp only [Act.put, List.getElem_toArray, List.getElem_cons_succ, List.getElem_cons_zero, List.setIfInBounds_toArray, List.set_cons_zero, List.set_cons_succ]
      refine wpAnyH_take (i := 12) (v := undef) rfl (by kernel_rfl) (by kernel_rfl) (by kernel_rfl) (fun _ _ _ h => h) (Or.inr ⟨by kernel_rfl, rfl⟩) HL_ ?_
      simp only [Act.put, List.getElem_toArray, List.getElem_cons_succ, List.getElem_cons_zero, List.setIfInBounds_toArray, List.set_cons_zero, List.set_cons_succ]
      refine wpAnyH_take (i := 13) (v := undef) rfl (by kernel_rfl) (by kernel_rfl) (by kernel_rfl) (fun _ _ _ h => h) (Or.inr ⟨by kernel_rfl, rfl⟩) HL_ ?_
      simp only [Act.put, List.getElem_toArray, List.getElem_cons_succ, List.getElem_cons_zero, List.setIfInBounds_toArray, List.set_cons_zero, List.set_cons_succ]
      refine wpAnyH_take (i := 14) (v := undef) rfl (by kernel_rfl) (by kernel_rfl) (by kernel_rfl) (fun _ _ _ h => h) (Or.inr ⟨by kernel_rfl, rfl⟩) HL_ ?_
      simp only [Act.put, List.getElem_toArray, List.getElem_cons_succ, List.getElem_cons_zero, List.setIfInBounds_toArray, List.set_cons_zero, List.set_cons_succ]
      refine wpAnyH_take (i := 15) (v := undef) rfl (by kernel_rfl) (by kernel_rfl) (by kernel_rfl) (fun _ _ _ h => h) (Or.inr ⟨by kernel_rfl, rfl⟩) HL_ ?_
      simp only [Act.put, List.getElem_toArray, List.getElem_cons_succ, List.getElem_cons_zero, List.setIfInBounds_toArray, List.set_cons_zero, List.set_cons_succ]
      refine wpAnyH_take (i := 16) (v := undef) rfl (by kernel_rfl) (by kernel_rfl) (by kernel_rfl) (fun _ _ _ h => h) (Or.inr ⟨by kernel_rfl, rfl⟩) HL_ ?_
      simp only [Act.put, List.getElem_toArray, List.getElem_cons_succ, List.getElem_cons_zero, List.setIfInBounds_toArray, List.set_cons_zero, List.set_cons_succ]
      refine wpAnyH_take (i := 17) (v := undef) rfl (by kernel_rfl) (by kernel_rfl) (by kernel_rfl) (fun _ _ _ h => h) (Or.inr ⟨by kernel_rfl, rfl⟩) HL_ ?_
      simp only [Act.put, List.getElem_toArray, List.getElem_cons_succ, List.getElem_cons_zero, List.setIfInBounds_toArray, List.set_cons_zero, List.set_cons_succ]
      refine wpAnyH_take (i := 18) (v := undef) rfl (by kernel_rfl) (by kernel_rfl) (by kernel_rfl) (fun _ _ _ h => h) (Or.inr ⟨by kernel_rfl, rfl⟩) HL_ ?_
      simp only [Act.put, List.getElem_toArray, List.getElem_cons_succ, List.getElem_cons_zero, List.setIfInBounds_toArray, List.set_cons_zero, List.set_cons_succ]
      refine wpAnyH_take (i := 19) (v := undef) rfl (by kernel_rfl) (by kernel_rfl) (by kernel_rfl) (fun _ _ _ h => h) (Or.inr ⟨by kernel_rfl, rfl⟩) HL_ ?_
      simp only [Act.put, List.getElem_toArray, List.getElem_cons_succ, List.getElem_cons_zero, List.setIfInBounds_toArray, List.set_cons_zero, List.set_cons_succ]
      refine wpAnyH_take (i := 20) (v := undef) rfl (by kernel_rfl) (by kernel_rfl) (by kernel_rfl) (fun _ _ _ h => h) (Or.inr ⟨by kernel_rfl, rfl⟩) HL_ ?_
      simp only [Act.put, List.getElem_toArray, List.getElem_cons_succ, List.getElem_cons_zero, List.setIfInBounds_toArray, List.set_cons_zero, List.set_cons_succ]
      refine wpAnyH_take (i := 21) (v := undef) rfl (by kernel_rfl) (by kernel_rfl) (by kernel_rfl) (fun _ _ _ h => h) (Or.inr ⟨by kernel_rfl, rfl⟩) HL_ ?_
      simp only [Act.put, List.getElem_toArray, List.getElem_cons_succ, List.getElem_cons_zero, List.setIfInBounds_toArray, List.set_cons_zero, List.set_cons_succ]
      refine wpAnyH_take (i := 22) (v := .bool false) rfl (by kernel_rfl) (by kernel_rfl) (by kernel_rfl) (fun _ _ _ h => h) (Or.inl ⟨by kernel_rfl, ?_⟩) HL_ ?_
      · rintro Wl s0
        go_simp
      simp only [Act.put, List.getElem_toArray, List.getElem_cons_succ, List.getElem_cons_zero, List.setIfInBounds_toArray, List.set_cons_zero, List.set_cons_succ]
      refine wpAnyH_take (i := 23) (v := .bool false) rfl (by kernel_rfl) (by kernel_rfl) (by kernel_rfl) (fun _ _ _ h => h) (Or.inl ⟨by kernel_rfl, ?_⟩) HL_ ?_
      · rintro Wl s0
        go_simp
      simp only [Act.put, List.getElem_toArray, List.getElem_cons_succ, List.getElem_cons_zero, List.setIfInBounds_toArray, List.set_cons_zero, List.set_cons_succ]
      refine wpAnyH_done (by kernel_rfl) ?_ _
      clear HL_ kp
      generalize wq0_ = wh at *
      have HW9 := Lib.hid (HW.out.trans ((on_below HB.out hB).mono HW.out.size))
      clear hB
      go_wp2_with fail
      go_roundw
      case rel => exact ⟨k + 1, hlt, int_of (by first | rfl | exact w1_ | exact w2_), ⟨(fun j hj => by have e : j = k := (by omega); subst e; rw [HU.out]; exact HV.out), (fun j hj => by omega), HD.out⟩, HW9.out⟩
      case measure => simp [intOf, w1_, w2_]; clear w1_ w2_; omega
    obtain ⟨k1, hk1⟩ : ∃ k1, k = k1 + 1 := ⟨k - 1, by omega⟩
    obtain ⟨b1, o1, eA, d0, d1, d2, d3, d4, d5, d6⟩ := HS.out k1 (by omega)
    injection eA with eA
    injection eA with eb eo _
    subst eb eo
    have HQ := Lib.hid (show ∃ u, gdP L k1 = u from ⟨_, rfl⟩)
    obtain ⟨u, hu⟩ := HQ.out
    clear HQ
    rw [hu] at d0 d1 d2 d3 d4 d5 d6
    have HQ := Lib.hid hu
    clear hu
    obtain ⟨ri, ra, rb, rx, ry, rz, rk⟩ := u
    dsimp only at d0 d1 d2 d3 d4 d5 d6
    have hz : (0 : Int) < (k : Int) := by omega
    have z3 : (k1 : Int) < L.length := by omega
    have z4 : (k : Int) < L.length := by omega
    have hk9 : k ≤ 100000 := by omega
    have z1 := wr_down hk1 hk9
    have z2 := wr_down' hk1 hk9
    have HK1 := Lib.hid hk1
    clear hk1 hk9
    cases hq : bhd ⟨pi, pa, pb, px, py, pz, pk⟩ ⟨ri, ra, rb, rx, ry, rz, rk⟩
    · have KQ := Lib.hid (bef_is ⟨ri, ra, rb, rx, ry, rz, rk⟩ ⟨pi, pa, pb, px, py, pz, pk⟩ false hq)
      have HQF := Lib.hid hq
      clear hq
      obtain rfl := false_of (r := r) (fun e => by have h1 := (HR.out.1 e).rise k1 (by have := HK1.out; omega); rw [← HK1.out, HU.out, HQ.out, HQF.out] at h1; cases h1)
      have HB := Lib.hid (Below.refl wr.heap.size wr)
      go_wp2_with fail
      with_reducible refine (CP.out _).mono ?_
      rintro e_ w21 ⟨rfl, hb⟩
      replace HB := Lib.hid (on_below HB.out hb)
      replace HS := Lib.hid (HS.out.below hb)
      replace e0 := keepc hb e0
      replace e1 := keepc hb e1
      replace e2 := keepc hb e2
      replace e3 := keepc hb e3
      replace e4 := keepc hb e4
      replace e5 := keepc hb e5
      replace e6 := keepc hb e6
      replace d0 := keepc hb d0
      replace d1 := keepc hb d1
      replace d2 := keepc hb d2
      replace d3 := keepc hb d3
      replace d4 := keepc hb d4
      replace d5 := keepc hb d5
      replace d6 := keepc hb d6
      clear hb
      go_wp2_with fail
      with_reducible refine (CX.out _ HS.out).mono ?_
      rintro e_ w22 ⟨rfl, hb⟩
      replace HB := Lib.hid (on_below HB.out hb)
      replace HS := Lib.hid (HS.out.below hb)
      replace e0 := keepc hb e0
      replace e1 := keepc hb e1
      replace e2 := keepc hb e2
      replace e3 := keepc hb e3
      replace e4 := keepc hb e4
      replace e5 := keepc hb e5
      replace e6 := keepc hb e6
      replace d0 := keepc hb d0
      replace d1 := keepc hb d1
      replace d2 := keepc hb d2
      replace d3 := keepc hb d3
      replace d4 := keepc hb d4
      replace d5 := keepc hb d5
      replace d6 := keepc hb d6
      clear hb
      go_wp2_with fail
      have kp : ∀ {Wq_ : World}, Below w22.heap.size w22 Wq_ → Wq_.cell? ⟨b0, o0 + k * 7, none⟩ = some (.int .i64 pi) ∧ Wq_.cell? ⟨b0, o0 + k * 7 + 1, none⟩ = some (.int .i64 pa) ∧ Wq_.cell? ⟨b0, o0 + k * 7 + 2, none⟩ = some (.int .i64 pb) ∧ Wq_.cell? ⟨b0, o0 + k * 7 + 3, none⟩ = some (.int .i64 px) ∧ Wq_.cell? ⟨b0, o0 + k * 7 + 4, none⟩ = some (.int .i64 py) ∧ Wq_.cell? ⟨b0, o0 + k * 7 + 5, none⟩ = some (.int .i64 pz) ∧ Wq_.cell? ⟨b0, o0 + k * 7 + 6, none⟩ = some (.int .i64 pk) ∧ Wq_.cell? ⟨b0, o0 + k1 * 7, none⟩ = some (.int .i64 ri) ∧ Wq_.cell? ⟨b0, o0 + k1 * 7 + 1, none⟩ = some (.int .i64 ra) ∧ Wq_.cell? ⟨b0, o0 + k1 * 7 + 2, none⟩ = some (.int .i64 rb) ∧ Wq_.cell? ⟨b0, o0 + k1 * 7 + 3, none⟩ = some (.int .i64 rx) ∧ Wq_.cell? ⟨b0, o0 + k1 * 7 + 4, none⟩ = some (.int .i64 ry) ∧ Wq_.cell? ⟨b0, o0 + k1 * 7 + 5, none⟩ = some (.int .i64 rz) ∧ Wq_.cell? ⟨b0, o0 + k1 * 7 + 6, none⟩ = some (.int .i64 rk) := fun h => ⟨keepc h e0, keepc h e1, keepc h e2, keepc h e3, keepc h e4, keepc h e5, keepc h e6, keepc h d0, keepc h d1, keepc h d2, keepc h d3, keepc h d4, keepc h d5, keepc h d6⟩
      have hB : Below w22.heap.size w22 w22.drew := (Below.refl _ _).drew
      refine wp_region_held_drew (S := fun Wq_ => Wq_.cell? ⟨b0, o0 + k * 7, none⟩ = some (.int .i64 pi) ∧ Wq_.cell? ⟨b0, o0 + k * 7 + 1, none⟩ = some (.int .i64 pa) ∧ Wq_.cell? ⟨b0, o0 + k * 7 + 2, none⟩ = some (.int .i64 pb) ∧ Wq_.cell? ⟨b0, o0 + k * 7 + 3, none⟩ = some (.int .i64 px) ∧ Wq_.cell? ⟨b0, o0 + k * 7 + 4, none⟩ = some (.int .i64 py) ∧ Wq_.cell? ⟨b0, o0 + k * 7 + 5, none⟩ = some (.int .i64 pz) ∧ Wq_.cell? ⟨b0, o0 + k * 7 + 6, none⟩ = some (.int .i64 pk) ∧ Wq_.cell? ⟨b0, o0 + k1 * 7, none⟩ = some (.int .i64 ri) ∧ Wq_.cell? ⟨b0, o0 + k1 * 7 + 1, none⟩ = some (.int .i64 ra) ∧ Wq_.cell? ⟨b0, o0 + k1 * 7 + 2, none⟩ = some (.int .i64 rb) ∧ Wq_.cell? ⟨b0, o0 + k1 * 7 + 3, none⟩ = some (.int .i64 rx) ∧ Wq_.cell? ⟨b0, o0 + k1 * 7 + 4, none⟩ = some (.int .i64 ry) ∧ Wq_.cell? ⟨b0, o0 + k1 * 7 + 5, none⟩ = some (.int .i64 rz) ∧ Wq_.cell? ⟨b0, o0 + k1 * 7 + 6, none⟩ = some (.int .i64 rk)) (by kernel_rfl) (kp (Below.refl _ _).drew) fun HL_ => ?_
      generalize w22.drew = wq0_ at *
      refine wpAnyH_take (i := 0) (v := .bool true) rfl (by kernel_rfl) (by kernel_rfl) (by kernel_rfl) (fun _ _ _ h => h) (Or.inl ⟨by kernel_rfl, ?_⟩) HL_ ?_
      · rintro Wl ⟨s0, s1, s2, s3, s4, s5, s6, s7, s8, s9, s10, s11, s12, s13⟩
        go_simp
      simp only [Act.put, List.getElem_toArray, List.getElem_cons_succ, List.getElem_cons_zero, List.setIfInBounds_toArray, List.set_cons_zero, List.set_cons_succ]
      refine wpAnyH_take (i := 1) (v := .bool false) rfl (by kernel_rfl) (by kernel_rfl) (by kernel_rfl) (fun _ _ _ h => h) (Or.inl ⟨by kernel_rfl, ?_⟩) HL_ ?_
      · rintro Wl ⟨s0, s1, s2, s3, s4, s5, s6, s7, s8, s9, s10, s11, s12, s13⟩
        go_simp
      simp only [Act.put, List.getElem_toArray, List.getElem_cons_succ, List.getElem_cons_zero, List.setIfInBounds_toArray, List.set_cons_zero, List.set_cons_succ]
      refine wpAnyH_take (i := 2) (v := .bool false) rfl (by kernel_rfl) (by kernel_rfl) (by kernel_rfl) (fun _ _ _ h => h) (Or.inl ⟨by kernel_rfl, ?_⟩) HL_ ?_
      · rintro Wl ⟨s0, s1, s2, s3, s4, s5, s6, s7, s8, s9, s10, s11, s12, s13⟩
        go_simp
      simp only [Act.put, List.getElem_toArray, List.getElem_cons_succ, List.getElem_cons_zero, List.setIfInBounds_toArray, List.set_cons_zero, List.set_cons_succ]
      refine wpAnyH_take (i := 3) (v := .int .i64 (k : Int)) rfl (by kernel_rfl) (by kernel_rfl) (by kernel_rfl) (fun _ _ _ h => h) (Or.inl ⟨by kernel_rfl, ?_⟩) HL_ ?_
      · rintro Wl ⟨s0, s1, s2, s3, s4, s5, s6, s7, s8, s9, s10, s11, s12, s13⟩
        go_simp
      simp only [Act.put, List.getElem_toArray, List.getElem_cons_succ, List.getElem_cons_zero, List.setIfInBounds_toArray, List.set_cons_zero, List.set_cons_succ]
      refine wpAnyH_take (i := 4) (v := .int .i64 (k : Int)) rfl (by kernel_rfl) (by kernel_rfl) (by kernel_rfl) (fun _ _ _ h => h) (Or.inl ⟨by kernel_rfl, ?_⟩) HL_ ?_
      · rintro Wl ⟨s0, s1, s2, s3, s4, s5, s6, s7, s8, s9, s10, s11, s12, s13⟩
        go_simp
      simp only [Act.put, List.getElem_toArray, List.getElem_cons_succ, List.getElem_cons_zero, List.setIfInBounds_toArray, List.set_cons_zero, List.set_cons_succ]
      refine wpAnyH_take (i := 5) (v := .bool false) rfl (by kernel_rfl) (by kernel_rfl) (by kernel_rfl) (fun _ _ _ h => h) (Or.inl ⟨by kernel_rfl, ?_⟩) HL_ ?_
      · rintro Wl ⟨s0, s1, s2, s3, s4, s5, s6, s7, s8, s9, s10, s11, s12, s13⟩
        go_simp
      simp only [Act.put, List.getElem_toArray, List.getElem_cons_succ, List.getElem_cons_zero, List.setIfInBounds_toArray, List.set_cons_zero, List.set_cons_succ]
      refine wpAnyH_take (i := 6) (v := .bool false) rfl (by kernel_rfl) (by kernel_rfl) (by kernel_rfl) (fun _ _ _ h => h) (Or.inl ⟨by kernel_rfl, ?_⟩) HL_ ?_
      · rintro Wl ⟨s0, s1, s2, s3, s4, s5, s6, s7, s8, s9, s10, s11, s12, s13⟩
        go_simp
      simp only [Act.put, List.getElem_toArray, List.getElem_cons_succ, List.getElem_cons_zero, List.setIfInBounds_toArray, List.set_cons_zero, List.set_cons_succ]
      refine wpAnyH_take (i := 7) (v := .bool false) rfl (by kernel_rfl) (by kernel_rfl) (by kernel_rfl) (fun _ _ _ h => h) (Or.inl ⟨by kernel_rfl, ?_⟩) HL_ ?_
      · rintro Wl ⟨s0, s1, s2, s3, s4, s5, s6, s7, s8, s9, s10, s11, s12, s13⟩
        go_simp
      simp only [Act.put, List.getElem_toArray, List.getElem_cons_succ, List.getElem_cons_zero, List.setIfInBounds_toArray, List.set_cons_zero, List.set_cons_succ]
      refine wpAnyH_take (i := 8) (v := .int .i64 (k : Int)) rfl (by kernel_rfl) (by kernel_rfl) (by kernel_rfl) (fun _ _ _ h => h) (Or.inl ⟨by kernel_rfl, ?_⟩) HL_ ?_
      · rintro Wl ⟨s0, s1, s2, s3, s4, s5, s6, s7, s8, s9, s10, s11, s12, s13⟩
        go_simp
      simp only [Act.put, List.getElem_toArray, List.getElem_cons_succ, List.getElem_cons_zero, List.setIfInBounds_toArray, List.set_cons_zero, List.set_cons_succ]
      refine wpAnyH_take (i := 9) (v := .bool true) rfl (by kernel_rfl) (by kernel_rfl) (by kernel_rfl) (fun _ _ _ h => h) (Or.inl ⟨by kernel_rfl, ?_⟩) HL_ ?_
      · rintro Wl ⟨s0, s1, s2, s3, s4, s5, s6, s7, s8, s9, s10, s11, s12, s13⟩
        go_simp
      simp only [Act.put, List.getElem_toArray, List.getElem_cons_succ, List.getElem_cons_zero, List.setIfInBounds_toArray, List.set_cons_zero, List.set_cons_succ]
      refine wpAnyH_take (i := 10) (v := .bool true) rfl (by kernel_rfl) (by kernel_rfl) (by kernel_rfl) (fun _ _ _ h => h) (Or.inl ⟨by kernel_rfl, ?_⟩) HL_ ?_
      · rintro Wl ⟨s0, s1, s2, s3, s4, s5, s6, s7, s8, s9, s10, s11, s12, s13⟩
        go_simp
      simp only [Act.put, List.getElem_toArray, List.getElem_cons_succ, List.getElem_cons_zero, List.setIfInBounds_toArray, List.set_cons_zero, List.set_cons_succ]
      refine wpAnyH_take (i := 11) (v := .slice (some ⟨b0, o0, none⟩) L.length C) rfl (by kernel_rfl) (by kernel_rfl) (by kernel_rfl) (fun _ _ _ h => h) (Or.inl ⟨by kernel_rfl, ?_⟩) HL_ ?_
      · rintro Wl ⟨s0, s1, s2, s3, s4, s5, s6, s7, s8, s9, s10, s11, s12, s13⟩
        go_simp
      simp only [Act.put, List.getElem_toArray, List.getElem_cons_succ, List.getElem_cons_zero, List.setIfInBounds_toArray, List.set_cons_zero, List.set_cons_succ]
      refine wpAnyH_take (i := 12) (v := .int .i64 (k : Int)) rfl (by kernel_rfl) (by kernel_rfl) (by kernel_rfl) (fun _ _ _ h => h) (Or.inl ⟨by kernel_rfl, ?_⟩) HL_ ?_
      · rintro Wl ⟨s0, s1, s2, s3, s4, s5, s6, s7, s8, s9, s10, s11, s12, s13⟩
        go_simp
      simp only [Act.put, List.getElem_toArray, List.getElem_cons_succ, List.getElem_cons_zero, List.setIfInBounds_toArray, List.set_cons_zero, List.set_cons_succ]
      refine wpAnyH_take (i := 13) (v := .int .i64 (k1 : Int)) rfl (by kernel_rfl) (by kernel_rfl) (by kernel_rfl) (fun _ _ _ h => h) (Or.inl ⟨by kernel_rfl, ?_⟩) HL_ ?_
      · rintro Wl ⟨s0, s1, s2, s3, s4, s5, s6, s7, s8, s9, s10, s11, s12, s13⟩
        go_simp
      simp only [Act.put, List.getElem_toArray, List.getElem_cons_succ, List.getElem_cons_zero, List.setIfInBounds_toArray, List.set_cons_zero, List.set_cons_succ]
      refine wpAnyH_take (i := 14) (v := .pointer (some ⟨b0, o0 + k1 * 7, none⟩)) rfl (by kernel_rfl) (by kernel_rfl) (by kernel_rfl) (fun _ _ _ h => h) (Or.inl ⟨by kernel_rfl, ?_⟩) HL_ ?_
      · rintro Wl ⟨s0, s1, s2, s3, s4, s5, s6, s7, s8, s9, s10, s11, s12, s13⟩
        go_simp
      simp only [Act.put, List.getElem_toArray, List.getElem_cons_succ, List.getElem_cons_zero, List.setIfInBounds_toArray, List.set_cons_zero, List.set_cons_succ]
      refine wpAnyH_take (i := 15) (v := .agg #[.int .i64 ri, .int .i64 ra, .int .i64 rb, .int .i64 rx, .int .i64 ry, .int .i64 rz, .int .i64 rk]) rfl (by kernel_rfl) (by kernel_rfl) (by kernel_rfl) (fun _ _ _ h => h) (Or.inl ⟨by kernel_rfl, ?_⟩) HL_ ?_
      · rintro Wl ⟨s0, s1, s2, s3, s4, s5, s6, s7, s8, s9, s10, s11, s12, s13⟩
        go_simp
      simp only [Act.put, List.getElem_toArray, List.getElem_cons_succ, List.getElem_cons_zero, List.setIfInBounds_toArray, List.set_cons_zero, List.set_cons_succ]
      refine wpAnyH_take (i := 16) (v := .slice (some ⟨b0, o0, none⟩) L.length C) rfl (by kernel_rfl) (by kernel_rfl) (by kernel_rfl) (fun _ _ _ h => h) (Or.inl ⟨by kernel_rfl, ?_⟩) HL_ ?_
      · rintro Wl ⟨s0, s1, s2, s3, s4, s5, s6, s7, s8, s9, s10, s11, s12, s13⟩
        go_simp
      simp only [Act.put, List.getElem_toArray, List.getElem_cons_succ, List.getElem_cons_zero, List.setIfInBounds_toArray, List.set_cons_zero, List.set_cons_succ]
      refine wpAnyH_take (i := 17) (v := .int .i64 (k : Int)) rfl (by kernel_rfl) (by kernel_rfl) (by kernel_rfl) (fun _ _ _ h => h) (Or.inl ⟨by kernel_rfl, ?_⟩) HL_ ?_
      · rintro Wl ⟨s0, s1, s2, s3, s4, s5, s6, s7, s8, s9, s10, s11, s12, s13⟩
        go_simp
      simp only [Act.put, List.getElem_toArray, List.getElem_cons_succ, List.getElem_cons_zero, List.setIfInBounds_toArray, List.set_cons_zero, List.set_cons_succ]
      refine wpAnyH_take (i := 18) (v := .pointer (some ⟨b0, o0 + k * 7, none⟩)) rfl (by kernel_rfl) (by kernel_rfl) (by kernel_rfl) (fun _ _ _ h => h) (Or.inl ⟨by kernel_rfl, ?_⟩) HL_ ?_
      · rintro Wl ⟨s0, s1, s2, s3, s4, s5, s6, s7, s8, s9, s10, s11, s12, s13⟩
        go_simp
      simp only [Act.put, List.getElem_toArray, List.getElem_cons_succ, List.getElem_cons_zero, List.setIfInBounds_toArray, List.set_cons_zero, List.set_cons_succ]
      refine wpAnyH_take (i := 19) (v := .agg #[.int .i64 pi, .int .i64 pa, .int .i64 pb, .int .i64 px, .int .i64 py, .int .i64 pz, .int .i64 pk]) rfl (by kernel_rfl) (by kernel_rfl) (by kernel_rfl) (fun _ _ _ h => h) (Or.inl ⟨by kernel_rfl, ?_⟩) HL_ ?_
      · rintro Wl ⟨s0, s1, s2, s3, s4, s5, s6, s7, s8, s9, s10, s11, s12, s13⟩
        go_simp
      simp only [Act.put, List.getElem_toArray, List.getElem_cons_succ, List.getElem_cons_zero, List.setIfInBounds_toArray, List.set_cons_zero, List.set_cons_succ]
      refine wpAnyH_ready (rs := [20]) (by kernel_rfl) (by simp) ?_
      refine AllReadyH.cons (o := _) rfl (fun K hK => ?_) AllReadyH.nil
      go_simp
      with_reducible refine (KQ.out _).mono ?_
      rintro e_ wq1_ ⟨rfl, hb⟩
      replace hB := on_below hB hb
      clear hb
      refine hK.out _ _ (kp hB) fun HL_ => ?_
      clear hK K
      refine wpAnyH_take (i := 21) (v := .bool true) rfl (by kernel_rfl) (by kernel_rfl) (by kernel_rfl) (fun _ _ _ h => h) (Or.inl ⟨by kernel_rfl, ?_⟩) HL_ ?_
      · rintro Wl ⟨s0, s1, s2, s3, s4, s5, s6, s7, s8, s9, s10, s11, s12, s13⟩
        go_simp
      simp only [Act.put, List.getElem_toArray, List.getElem_cons_succ, List.getElem_cons_zero, List.setIfInBounds_toArray, List.set_cons_zero, List.set_cons_succ]
      refine wpAnyH_take (i := 22) (v := .bool true) rfl (by kernel_rfl) (by kernel_rfl) (by kernel_rfl) (fun _ _ _ h => h) (Or.inl ⟨by kernel_rfl, ?_⟩) HL_ ?_
      · rintro Wl ⟨s0, s1, s2, s3, s4, s5, s6, s7, s8, s9, s10, s11, s12, s13⟩
        go_simp
      simp only [Act.put, List.getElem_toArray, List.getElem_cons_succ, List.getElem_cons_zero, List.setIfInBounds_toArray, List.set_cons_zero, List.set_cons_succ]
      refine wpAnyH_take (i := 23) (v := .bool true) rfl (by kernel_rfl) (by kernel_rfl) (by kernel_rfl) (fun _ _ _ h => h) (Or.inl ⟨by kernel_rfl, ?_⟩) HL_ ?_
      · rintro Wl ⟨s0, s1, s2, s3, s4, s5, s6, s7, s8, s9, s10, s11, s12, s13⟩
        go_simp
      simp only [Act.put, List.getElem_toArray, List.getElem_cons_succ, List.getElem_cons_zero, List.setIfInBounds_toArray, List.set_cons_zero, List.set_cons_succ]
      refine wpAnyH_done (by kernel_rfl) ?_ _
      clear HL_ kp
      generalize wq1_ = wh at *
      go_wp2_with fail
      go_ret
      exact ⟨rfl, HW.out.trans ((on_below HB.out hB).mono HW.out.size)⟩
    · have KQ := Lib.hid (bef_is ⟨ri, ra, rb, rx, ry, rz, rk⟩ ⟨pi, pa, pb, px, py, pz, pk⟩ true hq)
      have HQF := Lib.hid hq
      clear hq
      have HB := Lib.hid (Below.refl wr.heap.size wr)
      go_wp2_with fail
      with_reducible refine (CP.out _).mono ?_
      rintro e_ w21 ⟨rfl, hb⟩
      replace HB := Lib.hid (on_below HB.out hb)
      replace HS := Lib.hid (HS.out.below hb)
      replace e0 := keepc hb e0
      replace e1 := keepc hb e1
      replace e2 := keepc hb e2
      replace e3 := keepc hb e3
      replace e4 := keepc hb e4
      replace e5 := keepc hb e5
      replace e6 := keepc hb e6
      replace d0 := keepc hb d0
      replace d1 := keepc hb d1
      replace d2 := keepc hb d2
      replace d3 := keepc hb d3
      replace d4 := keepc hb d4
      replace d5 := keepc hb d5
      replace d6 := keepc hb d6
      clear hb
      go_wp2_with fail
      with_reducible refine (CX.out _ HS.out).mono ?_
      rintro e_ w22 ⟨rfl, hb⟩
      replace HB := Lib.hid (on_below HB.out hb)
      replace HS := Lib.hid (HS.out.below hb)
      replace e0 := keepc hb e0
      replace e1 := keepc hb e1
      replace e2 := keepc hb e2
      replace e3 := keepc hb e3
      replace e4 := keepc hb e4
      replace e5 := keepc hb e5
      replace e6 := keepc hb e6
      replace d0 := keepc hb d0
      replace d1 := keepc hb d1
      replace d2 := keepc hb d2
      replace d3 := keepc hb d3
      replace d4 := keepc hb d4
      replace d5 := keepc hb d5
      replace d6 := keepc hb d6
      clear hb
      go_wp2_with fail
      have kp : ∀ {Wq_ : World}, Below w22.heap.size w22 Wq_ → Wq_.cell? ⟨b0, o0 + k * 7, none⟩ = some (.int .i64 pi) ∧ Wq_.cell? ⟨b0, o0 + k * 7 + 1, none⟩ = some (.int .i64 pa) ∧ Wq_.cell? ⟨b0, o0 + k * 7 + 2, none⟩ = some (.int .i64 pb) ∧ Wq_.cell? ⟨b0, o0 + k * 7 + 3, none⟩ = some (.int .i64 px) ∧ Wq_.cell? ⟨b0, o0 + k * 7 + 4, none⟩ = some (.int .i64 py) ∧ Wq_.cell? ⟨b0, o0 + k * 7 + 5, none⟩ = some (.int .i64 pz) ∧ Wq_.cell? ⟨b0, o0 + k * 7 + 6, none⟩ = some (.int .i64 pk) ∧ Wq_.cell? ⟨b0, o0 + k1 * 7, none⟩ = some (.int .i64 ri) ∧ Wq_.cell? ⟨b0, o0 + k1 * 7 + 1, none⟩ = some (.int .i64 ra) ∧ Wq_.cell? ⟨b0, o0 + k1 * 7 + 2, none⟩ = some (.int .i64 rb) ∧ Wq_.cell? ⟨b0, o0 + k1 * 7 + 3, none⟩ = some (.int .i64 rx) ∧ Wq_.cell? ⟨b0, o0 + k1 * 7 + 4, none⟩ = some (.int .i64 ry) ∧ Wq_.cell? ⟨b0, o0 + k1 * 7 + 5, none⟩ = some (.int .i64 rz) ∧ Wq_.cell? ⟨b0, o0 + k1 * 7 + 6, none⟩ = some (.int .i64 rk) := fun h => ⟨keepc h e0, keepc h e1, keepc h e2, keepc h e3, keepc h e4, keepc h e5, keepc h e6, keepc h d0, keepc h d1, keepc h d2, keepc h d3, keepc h d4, keepc h d5, keepc h d6⟩
      have hB : Below w22.heap.size w22 w22.drew := (Below.refl _ _).drew
      refine wp_region_held_drew (S := fun Wq_ => Wq_.cell? ⟨b0, o0 + k * 7, none⟩ = some (.int .i64 pi) ∧ Wq_.cell? ⟨b0, o0 + k * 7 + 1, none⟩ = some (.int .i64 pa) ∧ Wq_.cell? ⟨b0, o0 + k * 7 + 2, none⟩ = some (.int .i64 pb) ∧ Wq_.cell? ⟨b0, o0 + k * 7 + 3, none⟩ = some (.int .i64 px) ∧ Wq_.cell? ⟨b0, o0 + k * 7 + 4, none⟩ = some (.int .i64 py) ∧ Wq_.cell? ⟨b0, o0 + k * 7 + 5, none⟩ = some (.int .i64 pz) ∧ Wq_.cell? ⟨b0, o0 + k * 7 + 6, none⟩ = some (.int .i64 pk) ∧ Wq_.cell? ⟨b0, o0 + k1 * 7, none⟩ = some (.int .i64 ri) ∧ Wq_.cell? ⟨b0, o0 + k1 * 7 + 1, none⟩ = some (.int .i64 ra) ∧ Wq_.cell? ⟨b0, o0 + k1 * 7 + 2, none⟩ = some (.int .i64 rb) ∧ Wq_.cell? ⟨b0, o0 + k1 * 7 + 3, none⟩ = some (.int .i64 rx) ∧ Wq_.cell? ⟨b0, o0 + k1 * 7 + 4, none⟩ = some (.int .i64 ry) ∧ Wq_.cell? ⟨b0, o0 + k1 * 7 + 5, none⟩ = some (.int .i64 rz) ∧ Wq_.cell? ⟨b0, o0 + k1 * 7 + 6, none⟩ = some (.int .i64 rk)) (by kernel_rfl) (kp (Below.refl _ _).drew) fun HL_ => ?_
      generalize w22.drew = wq0_ at *
      refine wpAnyH_take (i := 0) (v := .bool true) rfl (by kernel_rfl) (by kernel_rfl) (by kernel_rfl) (fun _ _ _ h => h) (Or.inl ⟨by kernel_rfl, ?_⟩) HL_ ?_
      · rintro Wl ⟨s0, s1, s2, s3, s4, s5, s6, s7, s8, s9, s10, s11, s12, s13⟩
        go_simp
      simp only [Act.put, List.getElem_toArray, List.getElem_cons_succ, List.getElem_cons_zero, List.setIfInBounds_toArray, List.set_cons_zero, List.set_cons_succ]
      refine wpAnyH_take (i := 1) (v := .bool false) rfl (by kernel_rfl) (by kernel_rfl) (by kernel_rfl) (fun _ _ _ h => h) (Or.inl ⟨by kernel_rfl, ?_⟩) HL_ ?_
      · rintro Wl ⟨s0, s1, s2, s3, s4, s5, s6, s7, s8, s9, s10, s11, s12, s13⟩
        go_simp
      simp only [Act.put, List.getElem_toArray, List.getElem_cons_succ, List.getElem_cons_zero, List.setIfInBounds_toArray, List.set_cons_zero, List.set_cons_succ]
      refine wpAnyH_take (i := 2) (v := .bool false) rfl (by kernel_rfl) (by kernel_rfl) (by kernel_rfl) (fun _ _ _ h => h) (Or.inl ⟨by kernel_rfl, ?_⟩) HL_ ?_
      · rintro Wl ⟨s0, s1, s2, s3, s4, s5, s6, s7, s8, s9, s10, s11, s12, s13⟩
        go_simp
      simp only [Act.put, List.getElem_toArray, List.getElem_cons_succ, List.getElem_cons_zero, List.setIfInBounds_toArray, List.set_cons_zero, List.set_cons_succ]
      refine wpAnyH_take (i := 3) (v := .int .i64 (k : Int)) rfl (by kernel_rfl) (by kernel_rfl) (by kernel_rfl) (fun _ _ _ h => h) (Or.inl ⟨by kernel_rfl, ?_⟩) HL_ ?_
      · rintro Wl ⟨s0, s1, s2, s3, s4, s5, s6, s7, s8, s9, s10, s11, s12, s13⟩
        go_simp
      simp only [Act.put, List.getElem_toArray, List.getElem_cons_succ, List.getElem_cons_zero, List.setIfInBounds_toArray, List.set_cons_zero, List.set_cons_succ]
      refine wpAnyH_take (i := 4) (v := .int .i64 (k : Int)) rfl (by kernel_rfl) (by kernel_rfl) (by kernel_rfl) (fun _ _ _ h => h) (Or.inl ⟨by kernel_rfl, ?_⟩) HL_ ?_
      · rintro Wl ⟨s0, s1, s2, s3, s4, s5, s6, s7, s8, s9, s10, s11, s12, s13⟩
        go_simp
      simp only [Act.put, List.getElem_toArray, List.getElem_cons_succ, List.getElem_cons_zero, List.setIfInBounds_toArray, List.set_cons_zero, List.set_cons_succ]
      refine wpAnyH_take (i := 5) (v := .bool false) rfl (by kernel_rfl) (by kernel_rfl) (by kernel_rfl) (fun _ _ _ h => h) (Or.inl ⟨by kernel_rfl, ?_⟩) HL_ ?_
      · rintro Wl ⟨s0, s1, s2, s3, s4, s5, s6, s7, s8, s9, s10, s11, s12, s13⟩
        go_simp
      simp only [Act.put, List.getElem_toArray, List.getElem_cons_succ, List.getElem_cons_zero, List.setIfInBounds_toArray, List.set_cons_zero, List.set_cons_succ]
      refine wpAnyH_take (i := 6) (v := .bool false) rfl (by kernel_rfl) (by kernel_rfl) (by kernel_rfl) (fun _ _ _ h => h) (Or.inl ⟨by kernel_rfl, ?_⟩) HL_ ?_
      · rintro Wl ⟨s0, s1, s2, s3, s4, s5, s6, s7, s8, s9, s10, s11, s12, s13⟩
        go_simp
      simp only [Act.put, List.getElem_toArray, List.getElem_cons_succ, List.getElem_cons_zero, List.setIfInBounds_toArray, List.set_cons_zero, List.set_cons_succ]
      refine wpAnyH_take (i := 7) (v := .bool false) rfl (by kernel_rfl) (by kernel_rfl) (by kernel_rfl) (fun _ _ _ h => h) (Or.inl ⟨by kernel_rfl, ?_⟩) HL_ ?_
      · rintro Wl ⟨s0, s1, s2, s3, s4, s5, s6, s7, s8, s9, s10, s11, s12, s13⟩
        go_simp
      simp only [Act.put, List.getElem_toArray, List.getElem_cons_succ, List.getElem_cons_zero, List.setIfInBounds_toArray, List.set_cons_zero, List.set_cons_succ]
      refine wpAnyH_take (i := 8) (v := .int .i64 (k : Int)) rfl (by kernel_rfl) (by kernel_rfl) (by kernel_rfl) (fun _ _ _ h => h) (Or.inl ⟨by kernel_rfl, ?_⟩) HL_ ?_
      · rintro Wl ⟨s0, s1, s2, s3, s4, s5, s6, s7, s8, s9, s10, s11, s12, s13⟩
        go_simp
      simp only [Act.put, List.getElem_toArray, List.getElem_cons_succ, List.getElem_cons_zero, List.setIfInBounds_toArray, List.set_cons_zero, List.set_cons_succ]
      refine wpAnyH_take (i := 9) (v := .bool true) rfl (by kernel_rfl) (by kernel_rfl) (by kernel_rfl) (fun _ _ _ h => h) (Or.inl ⟨by kernel_rfl, ?_⟩) HL_ ?_
      · rintro Wl ⟨s0, s1, s2, s3, s4, s5, s6, s7, s8, s9, s10, s11, s12, s13⟩
        go_simp
      simp only [Act.put, List.getElem_toArray, List.getElem_cons_succ, List.getElem_cons_zero, List.setIfInBounds_toArray, List.set_cons_zero, List.set_cons_succ]
      refine wpAnyH_take (i := 10) (v := .bool true) rfl (by kernel_rfl) (by kernel_rfl) (by kernel_rfl) (fun _ _ _ h => h) (Or.inl ⟨by kernel_rfl, ?_⟩) HL_ ?_
      · rintro Wl ⟨s0, s1, s2, s3, s4, s5, s6, s7, s8, s9, s10, s11, s12, s13⟩
        go_simp
      simp only [Act.put, List.getElem_toArray, List.getElem_cons_succ, List.getElem_cons_zero, List.setIfInBounds_toArray, List.set_cons_zero, List.set_cons_succ]
      refine wpAnyH_take (i := 11) (v := .slice (some ⟨b0, o0, none⟩) L.length C) rfl (by kernel_rfl) (by kernel_rfl) (by kernel_rfl) (fun _ _ _ h => h) (Or.inl ⟨by kernel_rfl, ?_⟩) HL_ ?_
      · rintro Wl ⟨s0, s1, s2, s3, s4, s5, s6, s7, s8, s9, s10, s11, s12, s13⟩
        go_simp
      simp only [Act.put, List.getElem_toArray, List.getElem_cons_succ, List.getElem_cons_zero, List.setIfInBounds_toArray, List.set_cons_zero, List.set_cons_succ]
      refine wpAnyH_take (i := 12) (v := .int .i64 (k : Int)) rfl (by kernel_rfl) (by kernel_rfl) (by kernel_rfl) (fun _ _ _ h => h) (Or.inl ⟨by kernel_rfl, ?_⟩) HL_ ?_
      · rintro Wl ⟨s0, s1, s2, s3, s4, s5, s6, s7, s8, s9, s10, s11, s12, s13⟩
        go_simp
      simp only [Act.put, List.getElem_toArray, List.getElem_cons_succ, List.getElem_cons_zero, List.setIfInBounds_toArray, List.set_cons_zero, List.set_cons_succ]
      refine wpAnyH_take (i := 13) (v := .int .i64 (k1 : Int)) rfl (by kernel_rfl) (by kernel_rfl) (by kernel_rfl) (fun _ _ _ h => h) (Or.inl ⟨by kernel_rfl, ?_⟩) HL_ ?_
      · rintro Wl ⟨s0, s1, s2, s3, s4, s5, s6, s7, s8, s9, s10, s11, s12, s13⟩
        go_simp
      simp only [Act.put, List.getElem_toArray, List.getElem_cons_succ, List.getElem_cons_zero, List.setIfInBounds_toArray, List.set_cons_zero, List.set_cons_succ]
      refine wpAnyH_take (i := 14) (v := .pointer (some ⟨b0, o0 + k1 * 7, none⟩)) rfl (by kernel_rfl) (by kernel_rfl) (by kernel_rfl) (fun _ _ _ h => h) (Or.inl ⟨by kernel_rfl, ?_⟩) HL_ ?_
      · rintro Wl ⟨s0, s1, s2, s3, s4, s5, s6, s7, s8, s9, s10, s11, s12, s13⟩
        go_simp
      simp only [Act.put, List.getElem_toArray, List.getElem_cons_succ, List.getElem_cons_zero, List.setIfInBounds_toArray, List.set_cons_zero, List.set_cons_succ]
      refine wpAnyH_take (i := 15) (v := .agg #[.int .i64 ri, .int .i64 ra, .int .i64 rb, .int .i64 rx, .int .i64 ry, .int .i64 rz, .int .i64 rk]) rfl (by kernel_rfl) (by kernel_rfl) (by kernel_rfl) (fun _ _ _ h => h) (Or.inl ⟨by kernel_rfl, ?_⟩) HL_ ?_
      · rintro Wl ⟨s0, s1, s2, s3, s4, s5, s6, s7, s8, s9, s10, s11, s12, s13⟩
        go_simp
      simp only [Act.put, List.getElem_toArray, List.getElem_cons_succ, List.getElem_cons_zero, List.setIfInBounds_toArray, List.set_cons_zero, List.set_cons_succ]
      refine wpAnyH_take (i := 16) (v := .slice (some ⟨b0, o0, none⟩) L.length C) rfl (by kernel_rfl) (by kernel_rfl) (by kernel_rfl) (fun _ _ _ h => h) (Or.inl ⟨by kernel_rfl, ?_⟩) HL_ ?_
      · rintro Wl ⟨s0, s1, s2, s3, s4, s5, s6, s7, s8, s9, s10, s11, s12, s13⟩
        go_simp
      simp only [Act.put, List.getElem_toArray, List.getElem_cons_succ, List.getElem_cons_zero, List.setIfInBounds_toArray, List.set_cons_zero, List.set_cons_succ]
      refine wpAnyH_take (i := 17) (v := .int .i64 (k : Int)) rfl (by kernel_rfl) (by kernel_rfl) (by kernel_rfl) (fun _ _ _ h => h) (Or.inl ⟨by kernel_rfl, ?_⟩) HL_ ?_
      · rintro Wl ⟨s0, s1, s2, s3, s4, s5, s6, s7, s8, s9, s10, s11, s12, s13⟩
        go_simp
      simp only [Act.put, List.getElem_toArray, List.getElem_cons_succ, List.getElem_cons_zero, List.setIfInBounds_toArray, List.set_cons_zero, List.set_cons_succ]
      refine wpAnyH_take (i := 18) (v := .pointer (some ⟨b0, o0 + k * 7, none⟩)) rfl (by kernel_rfl) (by kernel_rfl) (by kernel_rfl) (fun _ _ _ h => h) (Or.inl ⟨by kernel_rfl, ?_⟩) HL_ ?_
      · rintro Wl ⟨s0, s1, s2, s3, s4, s5, s6, s7, s8, s9, s10, s11, s12, s13⟩
        go_simp
      simp only [Act.put, List.getElem_toArray, List.getElem_cons_succ, List.getElem_cons_zero, List.setIfInBounds_toArray, List.set_cons_zero, List.set_cons_succ]
      refine wpAnyH_take (i := 19) (v := .agg #[.int .i64 pi, .int .i64 pa, .int .i64 pb, .int .i64 px, .int .i64 py, .int .i64 pz, .int .i64 pk]) rfl (by kernel_rfl) (by kernel_rfl) (by kernel_rfl) (fun _ _ _ h => h) (Or.inl ⟨by kernel_rfl, ?_⟩) HL_ ?_
      · rintro Wl ⟨s0, s1, s2, s3, s4, s5, s6, s7, s8, s9, s10, s11, s12, s13⟩
        go_simp
      simp only [Act.put, List.getElem_toArray, List.getElem_cons_succ, List.getElem_cons_zero, List.setIfInBounds_toArray, List.set_cons_zero, List.set_cons_succ]
      refine wpAnyH_ready (rs := [20]) (by kernel_rfl) (by simp) ?_
      refine AllReadyH.cons (o := _) rfl (fun K hK => ?_) AllReadyH.nil
      go_simp
      with_reducible refine (KQ.out _).mono ?_
      rintro e_ wq1_ ⟨rfl, hb⟩
      replace hB := on_below hB hb
      clear hb
      refine hK.out _ _ (kp hB) fun HL_ => ?_
      clear hK K
      refine wpAnyH_take (i := 21) (v := .bool false) rfl (by kernel_rfl) (by kernel_rfl) (by kernel_rfl) (fun _ _ _ h => h) (Or.inl ⟨by kernel_rfl, ?_⟩) HL_ ?_
      · rintro Wl ⟨s0, s1, s2, s3, s4, s5, s6, s7, s8, s9, s10, s11, s12, s13⟩
        go_simp
      simp only [Act.put, List.getElem_toArray, List.getElem_cons_succ, List.getElem_cons_zero, List.setIfInBounds_toArray, List.set_cons_zero, List.set_cons_succ]
      refine wpAnyH_take (i := 22) (v := .bool false) rfl (by kernel_rfl) (by kernel_rfl) (by kernel_rfl) (fun _ _ _ h => h) (Or.inl ⟨by kernel_rfl, ?_⟩) HL_ ?_
      · rintro Wl ⟨s0, s1, s2, s3, s4, s5, s6, s7, s8, s9, s10, s11, s12, s13⟩
        go_simp
      simp only [Act.put, List.getElem_toArray, List.getElem_cons_succ, List.getElem_cons_zero, List.setIfInBounds_toArray, List.set_cons_zero, List.set_cons_succ]
      refine wpAnyH_take (i := 23) (v := .bool false) rfl (by kernel_rfl) (by kernel_rfl) (by kernel_rfl) (fun _ _ _ h => h) (Or.inl ⟨by kernel_rfl, ?_⟩) HL_ ?_
      · rintro Wl ⟨s0, s1, s2, s3, s4, s5, s6, s7, s8, s9, s10, s11, s12, s13⟩
        go_simp
      simp only [Act.put, List.getElem_toArray, List.getElem_cons_succ, List.getElem_cons_zero, List.setIfInBounds_toArray, List.set_cons_zero, List.set_cons_succ]
      refine wpAnyH_done (by kernel_rfl) ?_ _
      clear HL_ kp
      generalize wq1_ = wh at *
      have HW9 := Lib.hid (HW.out.trans ((on_below HB.out hB).mono HW.out.size))
      clear hB
      go_wp2_with fail
      go_roundw
      case rel => exact ⟨k + 1, hlt, int_of (by first | rfl | exact w1_ | exact w2_), ⟨(fun j hj => by by_cases e : j = k; (subst e; rw [HU.out]; exact HV.out); exact HK.out.1 j (by omega)), (fun j hj => by by_cases e : j = k1; (subst e; rw [← HK1.out, HU.out, HQ.out]; exact HQF.out); exact HK.out.2.1 j (by have := HK1.out; omega)), HD.out⟩, HW9.out⟩
      case measure => simp [intOf, w1_, w2_]; clear w1_ w2_; omega
set_option maxRecDepth 100000 in
set_option maxHeartbeats 4000000 in
theorem qsi_is (A B : Option Addr) (C D : Nat) (X Y : List Int) (h1 : X.length ≤ 9223372036854775807) (h2 : Y.length ≤ 9223372036854775807) (r : Bool) (hr : r = true ↔ X = Y) (w : World) (hl : InS w A X) (hm : InS w B Y) :
    Calls Try.prog 31 #[.slice A X.length C, .slice B Y.length D] w fun e_ w' => e_ = .returned (.bool r) ∧ Below w.heap.size w w' := by
  have HR := Lib.hid hr
  clear hr
  have HL := Lib.hid hl
  clear hl
  have HM := Lib.hid hm
  clear hm
  by_cases c3 : X.length = Y.length
  rotate_left
  · have hf := false_of (r := r) (fun e_ => c3 (by rw [HR.out.1 e_]))
    have d3 : ((X.length : Int) != (Y.length : Int)) = true := by simp; omega
    subst hf
    go_enter Try.func31, Try.ntmps31
    go_wp2_with fail
    go_ret
    exact ⟨rfl, Below.refl _ _⟩
  have C3 := Lib.hid c3
  have d3 : ((X.length : Int) != (Y.length : Int)) = false := by simp [c3]
  go_enter Try.func31, Try.ntmps31
  go_wp2_with fail
  clear d3 c3
  go_loopw [5] (fun i wr => ∃ k : Nat, k ≤ X.length ∧ i = .int .i64 k ∧ Hid (∀ j, j < k → gdI X j = gdI Y j) ∧ Below w.heap.size w wr) (fun i _ => X.length - (intOf i).toNat)
  case atStart => exact ⟨0, Nat.zero_le _, rfl, (fun j hj => absurd hj (Nat.not_lt_zero j)), Below.refl _ _⟩
  case round =>
    obtain ⟨k, hk, rfl, HK, hW⟩ := hrel
    by_cases hlt : k < X.length
    · obtain ⟨b0, o0, rfl, e0⟩ := HL.out.below hW k hlt
      obtain ⟨b1, o1, rfl, f0⟩ := HM.out.below hW k (by rw [← C3.out]; exact hlt)
      have HW := Lib.hid hW
      clear hW
      have hlt2 : (k : Int) < Y.length := by have := C3.out; omega
      have w1_ : IntKind.i64.wrap ((k : Nat) + 1 : Int) = (k : Int) + 1 := IntWalk.i64_in _ ⟨by omega, by omega⟩
      have w2_ : wrap64 ((k : Nat) + 1 : Int) = (k : Int) + 1 := IntWalk.wrap64_in _ ⟨by omega, by omega⟩
      generalize hu : gdI X k = u at *
      generalize hv : gdI Y k = v at *
      have HU := Lib.hid (And.intro hu hv)
      clear hu hv
      by_cases hq : u = v
      · have z : (u != v) = false := by simp [hq]
        have HQ := Lib.hid hq
        clear hq
        go_wp2_with fail
        go_quiet (fail)
        go_wp2_with fail
        go_roundw
        case rel => exact ⟨k + 1, hlt, int_of (by first | rfl | exact w1_ | exact w2_), (fun j hj => by by_cases e : j = k; (subst e; rw [HU.out.1, HU.out.2]; exact HQ.out); exact HK.out j (by omega)), below_drewN' HW.out _⟩
        case measure => simp [intOf, w1_, w2_]; clear w1_ w2_; omega
      · have z : (u != v) = true := by simp [hq]
        have hf := false_of (r := r) (fun e => by have h := HU.out; rw [HR.out.1 e] at h; exact hq (h.1.symm.trans h.2))
        subst hf
        clear hq
        go_wp2_with fail
        go_quiet (fail)
        go_wp2_with fail
        go_ret
        exact ⟨rfl, below_drewN' HW.out _⟩
    · have hf := true_of (HR.out.2 (listI_eq C3.out (fun j hj => HK.out j (by omega))))
      subst hf
      go_wp2_with fail
      go_ret
      exact ⟨rfl, hW⟩
theorem listL_eq {N M : List (List Int)} (hl : N.length = M.length) (h : ∀ j, j < N.length → gdL N j = gdL M j) : N = M := by
  apply List.ext_getElem hl
  intro i h1 h2
  have := h i h1
  rwa [gdL_at h1, gdL_at h2] at this
set_option maxRecDepth 100000 in
set_option maxHeartbeats 4000000 in
theorem qsp_is (A B : Option Addr) (C D : Nat) (X Y : List (List Int)) (h1 : X.length ≤ 9223372036854775807) (h2 : Y.length ≤ 9223372036854775807) (h3 : ∀ i, i < X.length → (gdL X i).length ≤ 9223372036854775807) (h4 : ∀ i, i < Y.length → (gdL Y i).length ≤ 9223372036854775807) (r : Bool) (hr : r = true ↔ X = Y) (w : World) (hl : LLS w A X) (hm : LLS w B Y) :
    Calls Try.prog 17 #[.slice A X.length C, .slice B Y.length D] w fun e_ w' => e_ = .returned (.bool r) ∧ Below w.heap.size w w' := by
  have HR := Lib.hid hr
  clear hr
  have HL := Lib.hid hl
  clear hl
  have HM := Lib.hid hm
  clear hm
  have H3 := Lib.hid h3
  clear h3
  have H4 := Lib.hid h4
  clear h4
  by_cases c3 : X.length = Y.length
  rotate_left
  · have hf := false_of (r := r) (fun e_ => c3 (by rw [HR.out.1 e_]))
    have d3 : ((X.length : Int) != (Y.length : Int)) = true := by simp; omega
    subst hf
    go_enter Try.func17, Try.ntmps17
    go_wp2_with fail
    go_ret
    exact ⟨rfl, Below.refl _ _⟩
  have C3 := Lib.hid c3
  have d3 : ((X.length : Int) != (Y.length : Int)) = false := by simp [c3]
  go_enter Try.func17, Try.ntmps17
  go_wp2_with fail
  clear d3 c3
  go_loopw [5] (fun i wr => ∃ k : Nat, k ≤ X.length ∧ i = .int .i64 k ∧ Hid (∀ j, j < k → gdL X j = gdL Y j) ∧ Hid (Below w.heap.size w wr)) (fun i _ => X.length - (intOf i).toNat)
  case atStart => exact ⟨0, Nat.zero_le _, rfl, (fun j hj => absurd hj (Nat.not_lt_zero j)), Below.refl _ _⟩
  case round =>
    obtain ⟨k, hk, rfl, HK, HW⟩ := hrel
    by_cases hlt : k < X.length
    rotate_left
    · have hf := true_of (HR.out.2 (listL_eq C3.out (fun j hj => HK.out j (by omega))))
      subst hf
      go_wp2_with fail
      go_ret
      exact ⟨rfl, HW.out⟩
    have hkY : k < Y.length := by rw [← C3.out]; exact hlt
    obtain ⟨b0, o0, a0, c0, rfl, e0, hi0⟩ := HL.out.below HW.out k hlt
    obtain ⟨b1, o1, a1, c1, rfl, f0, hi1⟩ := HM.out.below HW.out k hkY
    have hlt2 : (k : Int) < Y.length := by omega
    have w1_ : IntKind.i64.wrap ((k : Nat) + 1 : Int) = (k : Int) + 1 := IntWalk.i64_in _ ⟨by omega, by omega⟩
    have w2_ : wrap64 ((k : Nat) + 1 : Int) = (k : Int) + 1 := IntWalk.wrap64_in _ ⟨by omega, by omega⟩
    obtain ⟨q, hq⟩ : ∃ q : Bool, q = true ↔ gdL X k = gdL Y k := ⟨decide (gdL X k = gdL Y k), by simp⟩
    have KQ := Lib.hid (fun W (a : InS W a0 (gdL X k)) (b : InS W a1 (gdL Y k)) => qsi_is a0 a1 c0 c1 (gdL X k) (gdL Y k) (H3.out k hlt) (H4.out k hkY) q hq W a b)
    have HQ := Lib.hid hq
    clear hq
    have HI := Lib.hid (And.intro hi0 hi1)
    clear hi0 hi1
    go_wp2_with fail
    have kp : ∀ {Wq_ : World}, Below wr.heap.size wr Wq_ → Wq_.cell? ⟨b0, o0 + k, none⟩ = some (.slice a0 (gdL X k).length c0) ∧ Wq_.cell? ⟨b1, o1 + k, none⟩ = some (.slice a1 (gdL Y k).length c1) := fun h => ⟨keepc h e0, keepc h f0⟩
    have hB : Below wr.heap.size wr wr.drew := (Below.refl _ _).drew
    refine wp_region_held_drew (S := fun Wq_ => Wq_.cell? ⟨b0, o0 + k, none⟩ = some (.slice a0 (gdL X k).length c0) ∧ Wq_.cell? ⟨b1, o1 + k, none⟩ = some (.slice a1 (gdL Y k).length c1)) (by kernel_rfl) (kp (Below.refl _ _).drew) fun HL_ => ?_
    generalize wr.drew = wq0_ at *
    refine wpAnyH_take (i := 0) (v := .slice (some ⟨b0, o0, none⟩) X.length C) rfl (by kernel_rfl) (by kernel_rfl) (by kernel_rfl) (fun _ _ _ h => h) (Or.inl ⟨by kernel_rfl, ?_⟩) HL_ ?_
    · rintro Wl ⟨s0, s1⟩
      go_simp
    simp only [Act.put, List.getElem_toArray, List.getElem_cons_succ, List.getElem_cons_zero, List.setIfInBounds_toArray, List.set_cons_zero, List.set_cons_succ]
    refine wpAnyH_take (i := 1) (v := .int .i64 (k : Int)) rfl (by kernel_rfl) (by kernel_rfl) (by kernel_rfl) (fun _ _ _ h => h) (Or.inl ⟨by kernel_rfl, ?_⟩) HL_ ?_
    · rintro Wl ⟨s0, s1⟩
      go_simp
    simp only [Act.put, List.getElem_toArray, List.getElem_cons_succ, List.getElem_cons_zero, List.setIfInBounds_toArray, List.set_cons_zero, List.set_cons_succ]
    refine wpAnyH_take (i := 2) (v := .pointer (some ⟨b0, o0 + k, none⟩)) rfl (by kernel_rfl) (by kernel_rfl) (by kernel_rfl) (fun _ _ _ h => h) (Or.inl ⟨by kernel_rfl, ?_⟩) HL_ ?_
    · rintro Wl ⟨s0, s1⟩
      go_simp
    simp only [Act.put, List.getElem_toArray, List.getElem_cons_succ, List.getElem_cons_zero, List.setIfInBounds_toArray, List.set_cons_zero, List.set_cons_succ]
    refine wpAnyH_take (i := 3) (v := .slice a0 (gdL X k).length c0) rfl (by kernel_rfl) (by kernel_rfl) (by kernel_rfl) (fun _ _ _ h => h) (Or.inl ⟨by kernel_rfl, ?_⟩) HL_ ?_
    · rintro Wl ⟨s0, s1⟩
      go_simp
    simp only [Act.put, List.getElem_toArray, List.getElem_cons_succ, List.getElem_cons_zero, List.setIfInBounds_toArray, List.set_cons_zero, List.set_cons_succ]
    refine wpAnyH_take (i := 4) (v := .slice (some ⟨b1, o1, none⟩) Y.length D) rfl (by kernel_rfl) (by kernel_rfl) (by kernel_rfl) (fun _ _ _ h => h) (Or.inl ⟨by kernel_rfl, ?_⟩) HL_ ?_
    · rintro Wl ⟨s0, s1⟩
      go_simp
    simp only [Act.put, List.getElem_toArray, List.getElem_cons_succ, List.getElem_cons_zero, List.setIfInBounds_toArray, List.set_cons_zero, List.set_cons_succ]
    refine wpAnyH_take (i := 5) (v := .int .i64 (k : Int)) rfl (by kernel_rfl) (by kernel_rfl) (by kernel_rfl) (fun _ _ _ h => h) (Or.inl ⟨by kernel_rfl, ?_⟩) HL_ ?_
    · rintro Wl ⟨s0, s1⟩
      go_simp
    simp only [Act.put, List.getElem_toArray, List.getElem_cons_succ, List.getElem_cons_zero, List.setIfInBounds_toArray, List.set_cons_zero, List.set_cons_succ]
    refine wpAnyH_take (i := 6) (v := .pointer (some ⟨b1, o1 + k, none⟩)) rfl (by kernel_rfl) (by kernel_rfl) (by kernel_rfl) (fun _ _ _ h => h) (Or.inl ⟨by kernel_rfl, ?_⟩) HL_ ?_
    · rintro Wl ⟨s0, s1⟩
      go_simp
    simp only [Act.put, List.getElem_toArray, List.getElem_cons_succ, List.getElem_cons_zero, List.setIfInBounds_toArray, List.set_cons_zero, List.set_cons_succ]
    refine wpAnyH_take (i := 7) (v := .slice a1 (gdL Y k).length c1) rfl (by kernel_rfl) (by kernel_rfl) (by kernel_rfl) (fun _ _ _ h => h) (Or.inl ⟨by kernel_rfl, ?_⟩) HL_ ?_
    · rintro Wl ⟨s0, s1⟩
      go_simp
    simp only [Act.put, List.getElem_toArray, List.getElem_cons_succ, List.getElem_cons_zero, List.setIfInBounds_toArray, List.set_cons_zero, List.set_cons_succ]
    refine wpAnyH_ready (rs := [8]) (by kernel_rfl) (by simp) ?_
    refine AllReadyH.cons (o := _) rfl (fun K hK => ?_) AllReadyH.nil
    go_simp
    with_reducible refine (KQ.out _ (HI.out.1.below hB) (HI.out.2.below hB)).mono ?_
    rintro e_ wq1_ ⟨rfl, hb⟩
    replace hB := on_below hB hb
    clear hb
    refine hK.out _ _ (kp hB) fun HL_ => ?_
    clear hK K
    refine wpAnyH_take (i := 9) (v := .bool q) rfl (by kernel_rfl) (by kernel_rfl) (by kernel_rfl) (fun _ _ _ h => h) (Or.inl ⟨by kernel_rfl, ?_⟩) HL_ ?_
    · rintro Wl ⟨s0, s1⟩
      go_simp
    simp only [Act.put, List.getElem_toArray, List.getElem_cons_succ, List.getElem_cons_zero, List.setIfInBounds_toArray, List.set_cons_zero, List.set_cons_succ]
    refine wpAnyH_done (by kernel_rfl) ?_ _
    clear HL_ kp
    generalize wq1_ = wh at *
    have HW9 := Lib.hid (on_below HW.out hB)
    clear hB HI KQ e0 f0
    cases q
    · have hf := false_of (r := r) (fun e => by have h := HQ.out.2 (by rw [HR.out.1 e]); cases h)
      subst hf
      go_wp2_with fail
      go_ret
      exact ⟨rfl, HW9.out⟩
    · go_wp2_with fail
      go_roundw
      case rel => exact ⟨k + 1, hlt, int_of (by first | rfl | exact w1_ | exact w2_), (fun j hj => by by_cases e : j = k; (subst e; exact HQ.out.1 (by first | rfl | trivial)); exact HK.out j (by omega)), HW9.out⟩
      case measure => simp [intOf, w1_, w2_]; clear w1_ w2_; omega
end Go.Proofs.Ytgikpcoaennkgaa
