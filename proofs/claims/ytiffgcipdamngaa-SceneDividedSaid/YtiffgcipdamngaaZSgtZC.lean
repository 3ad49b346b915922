/-
  Package sight: Share. The reference of layer 9: Same, Few.
-/
import Derived.Test.YtiffgcipdamngaaZSgtZB
import Derived.Test.YtiffgcipdamngaaZShpF
namespace Go.Proofs.Ytiffgcipdamngaa
open Go.RowKit Go.Sort
open Go.RowKit (Below)
set_option linter.unusedVariables false
set_option linter.unusedSimpArgs false
attribute [local go_sem] Oper.semAt_some

/-- The weights of the first k targets; of those that are seen. -/
def wsum (T : List Q4) : Nat → Int
  | 0 => 0
  | k + 1 => wsum T k + (gd4 T k).d
def ssum (T N : List Q4) : Nat → Int
  | 0 => 0
  | k + 1 => ssum T N k + if (gd4 N k).b = -1 then (gd4 T k).d else 0
theorem tok_d {T : List Q4} (h : Tok T) {k : Nat} (hk : k < T.length) : 1 ≤ (gd4 T k).d ∧ (gd4 T k).d ≤ 100 := by
  have := h.2 k hk
  unfold tgb at this
  simp only [Bool.or_eq_false_iff, decide_eq_false_iff_not] at this
  omega
theorem sum_bd {T N : List Q4} (h : Tok T) : ∀ k, k ≤ T.length → 0 ≤ ssum T N k ∧ ssum T N k ≤ wsum T k ∧ (k : Int) ≤ wsum T k ∧ wsum T k ≤ 100 * k
  | 0, _ => ⟨by simp [ssum], by simp [ssum, wsum], by simp [wsum], by simp [wsum]⟩
  | k + 1, hk => by
    obtain ⟨h1, h2, h3, h4⟩ := sum_bd (N := N) h k (by omega)
    have := tok_d h (show k < T.length by omega)
    unfold ssum wsum
    split <;> refine ⟨by omega, by omega, by omega, by omega⟩
/-- What Share answers. -/
def ShR (T N : List Q4) (n d E : Int) : Prop :=
  (60 < T.length ∧ E = 2 ∧ n = 0 ∧ d = 0) ∨ (T.length ≤ 60 ∧ ¬ (Tok T ∧ Num N T.length) ∧ E = 1 ∧ n = 0 ∧ d = 0) ∨
  (T.length ≤ 60 ∧ Tok T ∧ Num N T.length ∧ E = 0 ∧ mkN (ssum T N T.length) (wsum T T.length) = n ∧ mkD (ssum T N T.length) (wsum T T.length) = d)
set_option maxRecDepth 100000 in
set_option maxHeartbeats 2000000 in
theorem share_0 (A : Option Addr) (C : Nat) (T : List Q4) (G : Option Addr) (H : Nat) (N : List Q4) (h4 : T.length ≤ 9223372036854775807) (h6 : N.length ≤ 9223372036854775807) (h1 : 60 < T.length) (w : World) :
    Calls Try.prog 31 #[.slice A T.length C, .slice G N.length H] w fun e_ w' => e_ = .returned (.tuple #[.agg #[.int .i64 0, .int .i64 0], .int .i64 2]) ∧ Below w.heap.size w w' := by
  have o0 : World.cell? (w.alloc (.cells #[.int .i64 0, .int .i64 0] 32)) ⟨w.heap.size, 0, none⟩ = some (.int .i64 0) := by simp [go_sem]
  have fo0 : World.frozen? (w.alloc (.cells #[.int .i64 0, .int .i64 0] 32)) ⟨w.heap.size, 0, none⟩ = false := by simp [go_sem]
  have o1 : World.cell? (w.alloc (.cells #[.int .i64 0, .int .i64 0] 32)) ⟨w.heap.size, 1, none⟩ = some (.int .i64 0) := by simp [go_sem]
  have fo1 : World.frozen? (w.alloc (.cells #[.int .i64 0, .int .i64 0] 32)) ⟨w.heap.size, 1, none⟩ = false := by simp [go_sem]
  have lo : w.heap.size < (w.alloc (.cells #[.int .i64 0, .int .i64 0] 32)).heap.size := by simp <;> omega
  have HB := Lib.hid (show Below w.heap.size w (w.alloc (.cells #[.int .i64 0, .int .i64 0] 32)) from ((Below.refl _ _).alloc (by simp <;> omega) _))
  go_enter Try.func31, Try.ntmps31
  go_upto_region 1 with fail
  generalize w.alloc (.cells #[.int .i64 0, .int .i64 0] 32) = w1 at *
  go_wp2_with fail
  refine bodyPost_ret (v := .tuple #[.agg #[.int .i64 0, .int .i64 0], .int .i64 2]) (by simp [results, Try.results31, go_sem, o0, o1, lo]) rfl ⟨rfl, ?_⟩
  repeat (first | (with_reducible exact HB.out) | (refine Below.setCell ?_ (by first | exact Nat.le_refl _ | (simp; done) | (simp; omega) | omega) _) | (refine Below.alloc ?_ (by first | exact Nat.le_refl _ | (simp; done) | (simp; omega) | omega) _) | (refine Below.drew ?_) | (refine below_drewN' ?_ _))
set_option maxRecDepth 100000 in
set_option maxHeartbeats 2000000 in
theorem share_1 (A : Option Addr) (C : Nat) (T : List Q4) (G : Option Addr) (H : Nat) (N : List Q4) (h4 : T.length ≤ 9223372036854775807) (h6 : N.length ≤ 9223372036854775807) (h1 : T.length ≤ 60) (ht : ¬ Tok T) (w : World) (hl : S4 w A T) (hg : S4 w G N) :
    Calls Try.prog 31 #[.slice A T.length C, .slice G N.length H] w fun e_ w' => e_ = .returned (.tuple #[.agg #[.int .i64 0, .int .i64 0], .int .i64 1]) ∧ Below w.heap.size w w' := by
  have HC := Lib.hid (fun W (h : S4 W A T) => atg_is A C T h4 false (by simp [ht]) W h)
  skip
  have HL := Lib.hid hl
  clear hl
  have HG := Lib.hid hg
  clear hg
  have o0 : World.cell? (w.alloc (.cells #[.int .i64 0, .int .i64 0] 32)) ⟨w.heap.size, 0, none⟩ = some (.int .i64 0) := by simp [go_sem]
  have fo0 : World.frozen? (w.alloc (.cells #[.int .i64 0, .int .i64 0] 32)) ⟨w.heap.size, 0, none⟩ = false := by simp [go_sem]
  have o1 : World.cell? (w.alloc (.cells #[.int .i64 0, .int .i64 0] 32)) ⟨w.heap.size, 1, none⟩ = some (.int .i64 0) := by simp [go_sem]
  have fo1 : World.frozen? (w.alloc (.cells #[.int .i64 0, .int .i64 0] 32)) ⟨w.heap.size, 1, none⟩ = false := by simp [go_sem]
  have lo : w.heap.size < (w.alloc (.cells #[.int .i64 0, .int .i64 0] 32)).heap.size := by simp <;> omega
  have HB := Lib.hid (show Below w.heap.size w (w.alloc (.cells #[.int .i64 0, .int .i64 0] 32)) from ((Below.refl _ _).alloc (by simp <;> omega) _))
  go_enter Try.func31, Try.ntmps31
  go_upto_region 1 with fail
  generalize w.alloc (.cells #[.int .i64 0, .int .i64 0] 32) = w1 at *
  replace HL := Lib.hid (HL.out.below HB.out)
  replace HG := Lib.hid (HG.out.below HB.out)
  go_wp2_with fail
  with_reducible refine (HC.out _ HL.out).mono ?_
  rintro e_ w2 ⟨rfl, hb⟩
  replace HB := Lib.hid (on_below HB.out hb)
  replace HL := Lib.hid (HL.out.below hb)
  replace HG := Lib.hid (HG.out.below hb)
  replace o0 := keepc hb o0
  replace o1 := keepc hb o1
  replace fo0 := keepf hb lo fo0
  replace fo1 := keepf hb lo fo1
  replace lo := Nat.lt_of_lt_of_le lo hb.size
  clear hb
  go_wp2_with fail
  refine bodyPost_ret (v := .tuple #[.agg #[.int .i64 0, .int .i64 0], .int .i64 1]) (by simp [results, Try.results31, go_sem, o0, o1, lo]) rfl ⟨rfl, ?_⟩
  repeat (first | (with_reducible exact HB.out) | (refine Below.setCell ?_ (by first | exact Nat.le_refl _ | (simp; done) | (simp; omega) | omega) _) | (refine Below.alloc ?_ (by first | exact Nat.le_refl _ | (simp; done) | (simp; omega) | omega) _) | (refine Below.drew ?_) | (refine below_drewN' ?_ _))
set_option maxRecDepth 100000 in
set_option maxHeartbeats 2000000 in
theorem share_2 (A : Option Addr) (C : Nat) (T : List Q4) (G : Option Addr) (H : Nat) (N : List Q4) (h4 : T.length ≤ 9223372036854775807) (h6 : N.length ≤ 9223372036854775807) (h1 : T.length ≤ 60) (ht : Tok T) (hN : ¬ Num N T.length) (w : World) (hl : S4 w A T) (hg : S4 w G N) :
    Calls Try.prog 31 #[.slice A T.length C, .slice G N.length H] w fun e_ w' => e_ = .returned (.tuple #[.agg #[.int .i64 0, .int .i64 0], .int .i64 1]) ∧ Below w.heap.size w w' := by
  have HC := Lib.hid (fun W (h : S4 W A T) => atg_is A C T h4 true (by simp [ht]) W h)
  have HD := Lib.hid (fun W (h : S4 W G N) => num_is G H N T.length h6 h4 false (by simp [hN]) W h)
  have HL := Lib.hid hl
  clear hl
  have HG := Lib.hid hg
  clear hg
  have o0 : World.cell? (w.alloc (.cells #[.int .i64 0, .int .i64 0] 32)) ⟨w.heap.size, 0, none⟩ = some (.int .i64 0) := by simp [go_sem]
  have fo0 : World.frozen? (w.alloc (.cells #[.int .i64 0, .int .i64 0] 32)) ⟨w.heap.size, 0, none⟩ = false := by simp [go_sem]
  have o1 : World.cell? (w.alloc (.cells #[.int .i64 0, .int .i64 0] 32)) ⟨w.heap.size, 1, none⟩ = some (.int .i64 0) := by simp [go_sem]
  have fo1 : World.frozen? (w.alloc (.cells #[.int .i64 0, .int .i64 0] 32)) ⟨w.heap.size, 1, none⟩ = false := by simp [go_sem]
  have lo : w.heap.size < (w.alloc (.cells #[.int .i64 0, .int .i64 0] 32)).heap.size := by simp <;> omega
  have HB := Lib.hid (show Below w.heap.size w (w.alloc (.cells #[.int .i64 0, .int .i64 0] 32)) from ((Below.refl _ _).alloc (by simp <;> omega) _))
  go_enter Try.func31, Try.ntmps31
  go_upto_region 1 with fail
  generalize w.alloc (.cells #[.int .i64 0, .int .i64 0] 32) = w1 at *
  replace HL := Lib.hid (HL.out.below HB.out)
  replace HG := Lib.hid (HG.out.below HB.out)
  go_wp2_with fail
  with_reducible refine (HC.out _ HL.out).mono ?_
  rintro e_ w2 ⟨rfl, hb⟩
  replace HB := Lib.hid (on_below HB.out hb)
  replace HL := Lib.hid (HL.out.below hb)
  replace HG := Lib.hid (HG.out.below hb)
  replace o0 := keepc hb o0
  replace o1 := keepc hb o1
  replace fo0 := keepf hb lo fo0
  replace fo1 := keepf hb lo fo1
  replace lo := Nat.lt_of_lt_of_le lo hb.size
  clear hb
  go_wp2_with fail
  with_reducible refine (HD.out _ HG.out).mono ?_
  rintro e_ w3 ⟨rfl, hb⟩
  replace HB := Lib.hid (on_below HB.out hb)
  replace HL := Lib.hid (HL.out.below hb)
  replace HG := Lib.hid (HG.out.below hb)
  replace o0 := keepc hb o0
  replace o1 := keepc hb o1
  replace fo0 := keepf hb lo fo0
  replace fo1 := keepf hb lo fo1
  replace lo := Nat.lt_of_lt_of_le lo hb.size
  clear hb
  go_wp2_with fail
  refine bodyPost_ret (v := .tuple #[.agg #[.int .i64 0, .int .i64 0], .int .i64 1]) (by simp [results, Try.results31, go_sem, o0, o1, lo]) rfl ⟨rfl, ?_⟩
  repeat (first | (with_reducible exact HB.out) | (refine Below.setCell ?_ (by first | exact Nat.le_refl _ | (simp; done) | (simp; omega) | omega) _) | (refine Below.alloc ?_ (by first | exact Nat.le_refl _ | (simp; done) | (simp; omega) | omega) _) | (refine Below.drew ?_) | (refine below_drewN' ?_ _))
set_option maxRecDepth 100000 in
set_option maxHeartbeats 4000000 in
theorem share_3 (A : Option Addr) (C : Nat) (T : List Q4) (G : Option Addr) (H : Nat) (N : List Q4) (h4 : T.length ≤ 9223372036854775807) (h6 : N.length ≤ 9223372036854775807) (h1 : T.length ≤ 60) (ht : Tok T) (hN : Num N T.length) (n d : Int) (hn : mkN (ssum T N T.length) (wsum T T.length) = n) (hd : mkD (ssum T N T.length) (wsum T T.length) = d) (w : World) (hl : S4 w A T) (hg : S4 w G N) :
    Calls Try.prog 31 #[.slice A T.length C, .slice G N.length H] w fun e_ w' => e_ = .returned (.tuple #[.agg #[.int .i64 n, .int .i64 d], .int .i64 0]) ∧ Below w.heap.size w w' := by
  have HC := Lib.hid (fun W (h : S4 W A T) => atg_is A C T h4 true (by simp [ht]) W h)
  have HD := Lib.hid (fun W (h : S4 W G N) => num_is G H N T.length h6 h4 true (by simp [hN]) W h)
  have HM := Lib.hid (show ∀ W, Calls Try.prog 52 #[.int .i64 (ssum T N T.length), .int .i64 (wsum T T.length)] W fun e w' => e = .returned (.tuple #[.agg #[.int .i64 n, .int .i64 d], .int .i64 0]) ∧ Below W.heap.size W w' from fun W => by
    obtain ⟨b1, b2, b3, b4⟩ := sum_bd (N := N) ht T.length (Nat.le_refl _)
    have hp := ht.1
    have hm := make_any (ssum T N T.length) (wsum T T.length) W ⟨by omega, by omega⟩ ⟨by omega, by omega⟩
    rw [hn, hd, mk_ok (by omega) ⟨by omega, by omega⟩ ⟨by omega, by omega⟩] at hm
    exact hm)
  have HT := Lib.hid ht
  have HNl := Lib.hid hN.1
  clear ht hn hd hN
  have HL := Lib.hid hl
  clear hl
  have HG := Lib.hid hg
  clear hg
  have o0 : World.cell? (w.alloc (.cells #[.int .i64 0, .int .i64 0] 32)) ⟨w.heap.size, 0, none⟩ = some (.int .i64 0) := by simp [go_sem]
  have fo0 : World.frozen? (w.alloc (.cells #[.int .i64 0, .int .i64 0] 32)) ⟨w.heap.size, 0, none⟩ = false := by simp [go_sem]
  have o1 : World.cell? (w.alloc (.cells #[.int .i64 0, .int .i64 0] 32)) ⟨w.heap.size, 1, none⟩ = some (.int .i64 0) := by simp [go_sem]
  have fo1 : World.frozen? (w.alloc (.cells #[.int .i64 0, .int .i64 0] 32)) ⟨w.heap.size, 1, none⟩ = false := by simp [go_sem]
  have lo : w.heap.size < (w.alloc (.cells #[.int .i64 0, .int .i64 0] 32)).heap.size := by simp <;> omega
  have HB := Lib.hid (show Below w.heap.size w (w.alloc (.cells #[.int .i64 0, .int .i64 0] 32)) from ((Below.refl _ _).alloc (by simp <;> omega) _))
  go_enter Try.func31, Try.ntmps31
  go_upto_region 1 with fail
  generalize w.alloc (.cells #[.int .i64 0, .int .i64 0] 32) = w1 at *
  replace HL := Lib.hid (HL.out.below HB.out)
  replace HG := Lib.hid (HG.out.below HB.out)
  go_wp2_with fail
  with_reducible refine (HC.out _ HL.out).mono ?_
  rintro e_ w2 ⟨rfl, hb⟩
  replace HB := Lib.hid (on_below HB.out hb)
  replace HL := Lib.hid (HL.out.below hb)
  replace HG := Lib.hid (HG.out.below hb)
  replace o0 := keepc hb o0
  replace o1 := keepc hb o1
  replace fo0 := keepf hb lo fo0
  replace fo1 := keepf hb lo fo1
  replace lo := Nat.lt_of_lt_of_le lo hb.size
  clear hb
  go_wp2_with fail
  with_reducible refine (HD.out _ HG.out).mono ?_
  rintro e_ w3 ⟨rfl, hb⟩
  replace HB := Lib.hid (on_below HB.out hb)
  replace HL := Lib.hid (HL.out.below hb)
  replace HG := Lib.hid (HG.out.below hb)
  replace o0 := keepc hb o0
  replace o1 := keepc hb o1
  replace fo0 := keepf hb lo fo0
  replace fo1 := keepf hb lo fo1
  replace lo := Nat.lt_of_lt_of_le lo hb.size
  clear hb
  go_wp2_with fail
  go_loopw [6, 7, 27] (fun s a i wr => ∃ k : Nat, k ≤ T.length ∧ i = .int .i64 k ∧ s = .int .i64 (ssum T N k) ∧ a = .int .i64 (wsum T k) ∧ Below w3.heap.size w3 wr) (fun _ _ i _ => T.length - (intOf i).toNat)
  case atStart => exact ⟨0, Nat.zero_le _, rfl, rfl, rfl, Below.refl _ _⟩
  case round =>
    obtain ⟨k, hk, rfl, rfl, rfl, hW⟩ := hrel
    replace o0 := keepc hW o0
    replace o1 := keepc hW o1
    replace fo0 := keepf hW lo fo0
    replace fo1 := keepf hW lo fo1
    replace lo := Nat.lt_of_lt_of_le lo hW.size
    by_cases hlt : k < T.length
    · obtain ⟨b0, o0_, rfl, e0, e1, e2, e3⟩ := HL.out.below hW k hlt
      obtain ⟨b1, o1_, rfl, d0, d1, d2, d3⟩ := HG.out.below hW k (by rw [HNl.out]; exact hlt)
      have hsb := sum_bd (N := N) HT.out k hk
      have hsb2 := sum_bd (N := N) HT.out (k + 1) hlt
      have htd := tok_d HT.out hlt
      have e4 : (k : Int) < N.length := by have := HNl.out; omega
      have HW := Lib.hid (show wsum T (k + 1) = wsum T k + (gd4 T k).d from rfl)
      have HS := Lib.hid (show ssum T N (k + 1) = ssum T N k + if (gd4 N k).b = -1 then (gd4 T k).d else 0 from rfl)
      obtain ⟨b3, b4, b5, b6⟩ := hsb
      generalize hsk : ssum T N k = sk at *
      generalize hwk : wsum T k = wk at *
      clear hsk hwk hsb2
      generalize gd4 T k = u at *
      generalize gd4 N k = v at *
      obtain ⟨ua, ub, uc, ud⟩ := u
      obtain ⟨va, vb, vc, vd⟩ := v
      dsimp only at e0 e1 e2 e3 d0 d1 d2 d3 htd HW HS
      have wf0 : IntKind.i64.wrap (wk + ud) = wk + ud := IntWalk.i64_in _ ⟨by omega, by omega⟩
      have wf1 : IntKind.i64.wrap (sk + ud) = sk + ud := IntWalk.i64_in _ ⟨by omega, by omega⟩
      have wf2 : IntKind.i64.wrap ((k : Int) + 1) = (k : Int) + 1 := IntWalk.i64_in _ ⟨by omega, by omega⟩
      have wg0 : wrap64 (wk + ud) = wk + ud := IntWalk.wrap64_in _ ⟨by omega, by omega⟩
      have wg1 : wrap64 (sk + ud) = sk + ud := IntWalk.wrap64_in _ ⟨by omega, by omega⟩
      have wg2 : wrap64 ((k : Int) + 1) = (k : Int) + 1 := IntWalk.wrap64_in _ ⟨by omega, by omega⟩
      have ho := below_new wr (.cells #[.int .i64 ua, .int .i64 ub, .int .i64 uc, .int .i64 ud] 41)
      have n3 : World.cell? (wr.alloc (.cells #[.int .i64 ua, .int .i64 ub, .int .i64 uc, .int .i64 ud] 41)) ⟨wr.heap.size, 3, none⟩ = some (.int .i64 ud) := by simp [go_sem]
      have m1 := keepc ho d1
      have HB2 := Lib.hid (hW.trans (ho.mono hW.size))
      clear b3 b4 b5 b6 htd hW
      by_cases hs : vb = -1
      · have z1 : (vb == -1) = true := by rw [hs]; rfl
        rw [if_pos hs] at HS
        clear hs
        go_wp2_with fail
        go_roundw
        case rel => exact ⟨k + 1, hlt, int_of (by first | rfl | exact wf2 | exact wg2 | simp [wf2, wg2]), by rw [HS.out], by rw [HW.out], HB2.out⟩
        case measure => simp [intOf, wf2, wg2]; clear wf0 wf1 wf2 wg0 wg1 wg2 HB2; omega
      · have z1 : (vb == -1) = false := by rw [beq_eq_false_iff_ne]; exact hs
        rw [if_neg hs, Int.add_zero] at HS
        clear hs
        go_wp2_with fail
        go_roundw
        case rel => exact ⟨k + 1, hlt, int_of (by first | rfl | exact wf2 | exact wg2 | simp [wf2, wg2]), by rw [HS.out], by rw [HW.out], HB2.out⟩
        case measure => simp [intOf, wf2, wg2]; clear wf0 wf1 wf2 wg0 wg1 wg2 HB2; omega
    · have hke : k = T.length := by omega
      subst hke
      replace HB := Lib.hid (on_below HB.out hW)
      clear hW
      generalize ssum T N T.length = sk at *
      generalize wsum T T.length = wk at *
      go_wp2_with fail
      with_reducible refine (HM.out _).mono ?_
      rintro e_ w4 ⟨rfl, hb⟩
      replace o0 := keepc hb o0
      replace o1 := keepc hb o1
      replace fo0 := keepf hb lo fo0
      replace fo1 := keepf hb lo fo1
      replace lo := Nat.lt_of_lt_of_le lo hb.size
      replace HB := Lib.hid (on_below HB.out hb)
      clear hb
      go_wp2_with fail
      refine bodyPost_ret (v := .tuple #[.agg #[.int .i64 n, .int .i64 d], .int .i64 0]) (by simp [results, Try.results31, go_sem, o0, o1, lo]) rfl ⟨rfl, ?_⟩
      repeat (first | (with_reducible exact HB.out) | (refine Below.setCell ?_ (by first | exact Nat.le_refl _ | (simp; done) | (simp; omega) | omega) _) | (refine Below.alloc ?_ (by first | exact Nat.le_refl _ | (simp; done) | (simp; omega) | omega) _) | (refine Below.drew ?_) | (refine below_drewN' ?_ _))
theorem share_is (A : Option Addr) (C : Nat) (T : List Q4) (G : Option Addr) (H : Nat) (N : List Q4) (h4 : T.length ≤ 9223372036854775807) (h6 : N.length ≤ 9223372036854775807) (n d E : Int) (hE : ShR T N n d E) (w : World) (hl : S4 w A T) (hg : S4 w G N) :
    Calls Try.prog 31 #[.slice A T.length C, .slice G N.length H] w fun e_ w' => e_ = .returned (.tuple #[.agg #[.int .i64 n, .int .i64 d], .int .i64 E]) ∧ Below w.heap.size w w' := by
  rcases hE with ⟨h, rfl, rfl, rfl⟩ | ⟨h1, h, rfl, rfl, rfl⟩ | ⟨h1, ht, hN, rfl, hn, hd⟩
  · exact share_0 A C T G H N h4 h6 h w
  · by_cases ht : Tok T
    · exact share_2 A C T G H N h4 h6 h1 ht (fun hN => h ⟨ht, hN⟩) w hl hg
    · exact share_1 A C T G H N h4 h6 h1 ht w hl hg
  · exact share_3 A C T G H N h4 h6 h1 ht hN n d hn hd w hl hg
end Go.Proofs.Ytiffgcipdamngaa

namespace Go.Proofs.Ytiffgcipdamngaa
open Go.RowKit Go.Sort
open Go.RowKit (Below)
set_option linter.unusedVariables false
set_option linter.unusedSimpArgs false
/-- At most 12 targets and 12 bodies, with at most 12 corners each. -/
def Few (n : Nat) (L : List Bv) : Prop := n ≤ 12 ∧ L.length ≤ 12 ∧ ∀ k, k < L.length → (gdB L k).xs.length ≤ 12
end Go.Proofs.Ytiffgcipdamngaa
