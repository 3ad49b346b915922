/-
  The reference of package money: Split, for all ints and lists: the walk.
-/
import Derived.Test.YtanncjkkaeeiaaaGreatDoorMonRS
namespace Go.Proofs.YtanncjkkaeeiaaaGreatDoor
open Go.RowKit Go.Sort
open Go.RowKit (Below)
set_option linter.unusedVariables false

theorem drewN_drewN1 (w : World) (q : Nat) : (w.drewN q).drew = w.drewN (q + 1) := World.drewN_drewN w q 1

set_option maxRecDepth 100000 in
set_option maxHeartbeats 2000000 in
theorem refsplit_pos (c : Int) (A : Option Addr) (cap : Nat) (ws : List Int) (w : World) (hc : Bd c) (hc0 : 0 ≤ c) (hw : wts ws = true) (hS : Sl w A ws) :
    Calls Tryz.prog 11 #[.int .i64 c, .slice A ws.length cap] w (SplitOk c ws w) := by
  obtain ⟨i0, hi0, hz0, hz1, hz2⟩ := info_parts (show (Tryz.prog.info? 3).map (fun i => (i.zero, i.size, i.bytes)) = some (some (.int .i64 0), 1, 8) by kernel_rfl)
  obtain ⟨hl, hx, hW⟩ := wts_iff.1 hw
  have hn := wts_len hw
  have hWb : ws.sum ≤ 64000000 := by
    have := (sum_bd (m := 1000000) ws fun x h => by have := hx x h; omega).2
    omega
  have hca : (c.natAbs : Int) = c := by omega
  have HCA := Lib.hid hca
  have HS := Lib.hid hS
  have HX := Lib.hid hx
  have HC := Lib.hid hc
  have HAM := Lib.hid (am_bd.2 hc)
  have hc1 := hc.1
  have hc2 := hc.2
  have HW := Lib.hid hW
  have HWH := Lib.hid (whole_pos hw).2
  have hw0 : (ws.sum == 0) = false := by rw [beq_eq_false_iff_ne]; omega
  clear hS hx hc hW hw hca
  have tok1 : True := trivial
  have tok2 : True := trivial
  go_enter Tryz.func11, Tryz.ntmps11
  go_wp2_with fail
  refine (refam_b _ true HAM.out _).mono ?_
  rintro e w' ⟨rfl, rfl⟩
  go_wp2_with fail
  refine (refwhole_any _ _ _ _ (by omega) HS.out).mono ?_
  rintro e w' ⟨rfl, rfl⟩
  rw [HWH.out]
  go_wp2_with (first
    | (at_make; have _t := tok1; refine wpList_make_full _ rfl _ _ 22 rfl 0 3 i0 (.int .i64 0) 1 Tryz.underlying22 hi0 hz0 hz1 .i64 .i64 _ _ ws.length rfl rfl rfl rfl (by rw [hz2]; omega) (by unfold maxLen; omega) (Nat.zero_le _) ?_; intro w1 own1 gr1; clear tok1)
    | (at_make; have _t := tok2; refine wpList_make_full _ rfl _ _ 22 rfl 0 3 i0 (.int .i64 0) 1 Tryz.underlying22 hi0 hz0 hz1 .i64 .i64 _ _ ws.length rfl rfl rfl rfl (by rw [hz2]; omega) (by unfold maxLen; omega) (Nat.zero_le _) ?_; intro w2 own2 gr2; clear tok2))
  have HL := Lib.hid (R1.start (c := c) hn own1 gr1 own2 gr2)
  clear own1 gr1 own2 gr2
  generalize w1.heap.size = rb at *
  have HM := Lib.hid (fun k => mis_bd c ws HC.out hl HX.out HW.out k)
  go_loopw [11, 12] (fun m i wr => ∃ k : Nat, k ≤ ws.length ∧ i = .int .i64 k ∧ m = .int .i64 (mis c ws k) ∧ Hid (R1 c ws w w.heap.size rb k wr)) (fun _ i _ => ws.length - (intOf i).toNat)
  case atStart => exact ⟨0, Nat.zero_le _, rfl, by simp [mis]; omega, HL⟩
  case round =>
    clear HL
    obtain ⟨k, hk, rfl, rfl, HL⟩ := hrel
    by_cases hlt : k < ws.length
    · obtain ⟨b, o, rfl, hcw⟩ := (HS.out.below HL.out.bl) k hlt
      have hbl := block_lt (HS.out.here hlt)
      have hbl : b < w.heap.size := hbl
      have hxk := HX.out _ (getD_mem hlt)
      have hq := q_bd HC.out hxk HW.out
      have e0 : wrap64 ((c) * gd ws k) = (c.natAbs : Int) * gd ws k := by rw [← HCA.out]; exact IntWalk.wrap64_in _ ⟨by omega, by omega⟩
      have HE := Lib.hid e0
      have hfp := (HL.out.p k hlt).2
      have hfr := (HL.out.r k hlt).2
      have hcp := (HL.out.p k hlt).1
      have hcr := (HL.out.r k hlt).1
      have ⟨hn1, hn2, hn3⟩ := HL.out.ne
      have hd1 : b ≠ w.heap.size := by omega
      have hd2 : b ≠ rb := by omega
      have hd3 : w.heap.size ≠ rb := by omega
      have ⟨hm1, hm2⟩ := HM.out k
      have HMS := Lib.hid (mis_step c ws k hlt)
      generalize hv : (c.natAbs : Int) * gd ws k = v at *
      have HV := Lib.hid hv
      clear hv e0
      obtain ⟨hv1, hv2, hv3, hv4, hv5, hv6⟩ := hq
      have hW1 := HW.out
      have HT1 := Lib.hid (show wrap64 (v.tdiv ws.sum) = v / ws.sum by rw [Int.tdiv_eq_ediv_of_nonneg hv1]; exact IntWalk.wrap64_in _ ⟨by omega, by omega⟩)
      have HT2 := Lib.hid (show v.tmod ws.sum = v % ws.sum from Int.tmod_eq_emod_of_nonneg hv1)
      go_wp2
      go_roundw
      case rel =>
        rw [HE.out, HT1.out, HT2.out]
        exact ⟨k + 1, by omega, by go_num, by rw [HMS.out]; exact ret_val (IntWalk.wrap64_in _ ⟨by omega, by omega⟩), HL.out.step hlt HV.out⟩
      case measure => simp [intOf]; omega
    · have hls := mis_all c ws k hlt
      have hl0 := (left_bd (c.natAbs : Int) ws HW.out).1
      have hl1 := left_le (c.natAbs : Int) ws HW.out
      obtain ⟨m, hme⟩ : ∃ m : Nat, left c.natAbs ws.sum ws = m := ⟨(left c.natAbs ws.sum ws).toNat, by omega⟩
      rw [hme] at hls hl1
      rw [hls]
      have HME := Lib.hid hme
      have hml : m ≤ ws.length := by omega
      have HN := Lib.hid (rests_nn (c := c) HW.out)
      have HRB := Lib.hid (fun j i (hi : i < ws.length) => rem_bd (c := c) HW.out hWb j hi)
      have HL2 := Lib.hid (R2.start HL.out hlt)
      have HRL := Lib.hid (rests_len (c.natAbs : Int) ws.sum ws)
      clear hls hl0 hl1 hme HL
      go_wp2_with fail
      go_loopw [11] (fun t wx => ∃ j : Nat, j ≤ m ∧ t = .int .i64 ((m : Int) - j) ∧ Hid (R2 c ws w w.heap.size rb j wx)) (fun t _ => (intOf t).toNat)
      case atStart => exact ⟨0, Nat.zero_le _, by simp, HL2⟩
      case round =>
        clear HL2
        obtain ⟨j, hj, rfl, HL2⟩ := hrel
        by_cases hjm : j < m
        · go_wp2_with fail
          go_loopw [13, 14] (fun bb i wx => ∃ b k : Nat, b < k ∧ k ≤ ws.length ∧ bb = .int .i64 b ∧ i = .int .i64 k ∧ Hid (Fst (rests c.natAbs ws.sum ws) j b k) ∧ ∃ q, wx = wr.drewN q) (fun _ i _ => ws.length - (intOf i).toNat)
          case atStart => exact ⟨0, 1, by omega, hn, rfl, rfl, Fst.one _ _, 0, rfl⟩
          case round =>
            obtain ⟨b, k, hb, hk, rfl, rfl, HF, q, rfl⟩ := hrel
            have HQ := Lib.hid (fun n => show ∃ q', (wr.drewN q).drewN n = wr.drewN q' from ⟨q + n, World.drewN_drewN wr q n⟩)
            have HL3 := Lib.hid (HL2.out.drewN q)
            generalize wr.drewN q = wq at *
            by_cases hlt : k < ws.length
            · have hcx : wq.cell? ⟨rb, k, none⟩ = some (.int .i64 (rem (rests c.natAbs ws.sum ws) j k)) := (HL3.out.r k hlt).1
              have hcy : wq.cell? ⟨rb, b, none⟩ = some (.int .i64 (rem (rests c.natAbs ws.sum ws) j b)) := (HL3.out.r b (by omega)).1
              have HK := Lib.hid (fun h => HF.out.keep (k := k) h)
              have HT := Lib.hid (fun h => HF.out.take (k := k) h)
              have ⟨x1, x2⟩ := HRB.out j k hlt
              have ⟨y1, y2⟩ := HRB.out j b (by omega)
              have hbi : (b : Int) < ws.length := by omega
              generalize rem (rests c.natAbs ws.sum ws) j k = x at *
              generalize rem (rests c.natAbs ws.sum ws) j b = y at *
              by_cases hxy : y < x
              · go_wp2_with fail
                go_quiet (fail)
                go_wp2
                go_roundw
                case rel => exact ⟨k, k + 1, by omega, by omega, rfl, by go_num, HT.out hxy, HQ.out _⟩
                case measure => simp [intOf]; omega
              · go_wp2_with fail
                go_quiet (fail)
                go_wp2
                go_roundw
                case rel => exact ⟨b, k + 1, by omega, by omega, rfl, by go_num, HK.out (by omega), HQ.out _⟩
                case measure => simp [intOf]; omega
            · have hkn : k = ws.length := by omega
              have hbn : b < ws.length := by omega
              have hrk : rk (rests c.natAbs ws.sum ws) b = j := best_rk (by rw [HRL.out]; omega) (by rw [HRL.out]; exact hbn) HN.out (by rw [HRL.out, ← hkn]; exact HF.out.1) HF.out.2
              have HR := Lib.hid hrk
              clear hrk HF
              have hcp : wq.cell? ⟨w.heap.size, b, none⟩ = some (.int .i64 (c.natAbs * gd ws b / ws.sum + up (rests c.natAbs ws.sum ws) (j : Nat) b)) := (HL3.out.p b hbn).1
              have hfp := (HL3.out.p b hbn).2
              have hcr := (HL3.out.r b hbn).1
              have hfr := (HL3.out.r b hbn).2
              have hq := q_bd HC.out (HX.out _ (getD_mem hbn)) HW.out
              obtain ⟨-, -, q3, q4, -, -⟩ := hq
              have hup := up_cases (rests c.natAbs ws.sum ws) (j : Nat) b
              have ⟨hn1, hn2, hn3⟩ := HL3.out.ne
              have hbi : (b : Int) < ws.length := by omega
              have hd3 : w.heap.size ≠ rb := by omega
              generalize hv : (c.natAbs : Int) * gd ws b / ws.sum + up (rests c.natAbs ws.sum ws) (j : Nat) b = v at *
              have hv1 : 0 ≤ v ∧ v ≤ 1000000000000001 := by omega
              obtain ⟨hv1, hv2⟩ := hv1
              have HV := Lib.hid (show v + 1 = (c.natAbs : Int) * gd ws b / ws.sum + up (rests c.natAbs ws.sum ws) (j : Nat) b + 1 by rw [hv])
              clear hv hup q3 q4 hcr
              have hcr := (HL3.out.r b hbn).1
              go_wp2
              go_roundw
              case rel => exact ⟨j + 1, by omega, by go_num, HL3.out.step hbn HR.out HV.out⟩
              case measure => simp [intOf]; omega
        · have hjm2 : j = m := by omega
          subst hjm2
          have HP := Lib.hid (show Row wr w.heap.size ws.length (fun i => part c.natAbs ws i) from HL2.out.p.congr fun i hi => by rw [part, HME.out]; rfl)
          go_wp2
          go_ret2
          refine ⟨_, rfl, Nat.le_refl _, HP.out.congr fun i hi => ?_, HL2.out.bl⟩
          rw [sgd, if_neg (by omega)]

set_option maxRecDepth 100000 in
set_option maxHeartbeats 2000000 in
theorem refsplit_neg (c : Int) (A : Option Addr) (cap : Nat) (ws : List Int) (w : World) (hc : Bd c) (hc0 : c < 0) (hw : wts ws = true) (hS : Sl w A ws) :
    Calls Tryz.prog 11 #[.int .i64 c, .slice A ws.length cap] w (SplitOk c ws w) := by
  obtain ⟨i0, hi0, hz0, hz1, hz2⟩ := info_parts (show (Tryz.prog.info? 3).map (fun i => (i.zero, i.size, i.bytes)) = some (some (.int .i64 0), 1, 8) by kernel_rfl)
  obtain ⟨hl, hx, hW⟩ := wts_iff.1 hw
  have hn := wts_len hw
  have hWb : ws.sum ≤ 64000000 := by
    have := (sum_bd (m := 1000000) ws fun x h => by have := hx x h; omega).2
    omega
  have hca : (c.natAbs : Int) = -c := by omega
  have HCA := Lib.hid hca
  have HS := Lib.hid hS
  have HX := Lib.hid hx
  have HC := Lib.hid hc
  have HAM := Lib.hid (am_bd.2 hc)
  have hc1 := hc.1
  have hc2 := hc.2
  have HW := Lib.hid hW
  have HWH := Lib.hid (whole_pos hw).2
  have hw0 : (ws.sum == 0) = false := by rw [beq_eq_false_iff_ne]; omega
  clear hS hx hc hW hw hca
  have tok1 : True := trivial
  have tok2 : True := trivial
  go_enter Tryz.func11, Tryz.ntmps11
  go_wp2_with fail
  refine (refam_b _ true HAM.out _).mono ?_
  rintro e w' ⟨rfl, rfl⟩
  go_wp2_with fail
  refine (refwhole_any _ _ _ _ (by omega) HS.out).mono ?_
  rintro e w' ⟨rfl, rfl⟩
  rw [HWH.out]
  go_wp2_with (first
    | (at_make; have _t := tok1; refine wpList_make_full _ rfl _ _ 22 rfl 0 3 i0 (.int .i64 0) 1 Tryz.underlying22 hi0 hz0 hz1 .i64 .i64 _ _ ws.length rfl rfl rfl rfl (by rw [hz2]; omega) (by unfold maxLen; omega) (Nat.zero_le _) ?_; intro w1 own1 gr1; clear tok1)
    | (at_make; have _t := tok2; refine wpList_make_full _ rfl _ _ 22 rfl 0 3 i0 (.int .i64 0) 1 Tryz.underlying22 hi0 hz0 hz1 .i64 .i64 _ _ ws.length rfl rfl rfl rfl (by rw [hz2]; omega) (by unfold maxLen; omega) (Nat.zero_le _) ?_; intro w2 own2 gr2; clear tok2))
  have HL := Lib.hid (R1.start (c := c) hn own1 gr1 own2 gr2)
  clear own1 gr1 own2 gr2
  generalize w1.heap.size = rb at *
  have HM := Lib.hid (fun k => mis_bd c ws HC.out hl HX.out HW.out k)
  go_loopw [11, 12] (fun m i wr => ∃ k : Nat, k ≤ ws.length ∧ i = .int .i64 k ∧ m = .int .i64 (mis c ws k) ∧ Hid (R1 c ws w w.heap.size rb k wr)) (fun _ i _ => ws.length - (intOf i).toNat)
  case atStart => exact ⟨0, Nat.zero_le _, rfl, by simp [mis]; omega, HL⟩
  case round =>
    clear HL
    obtain ⟨k, hk, rfl, rfl, HL⟩ := hrel
    by_cases hlt : k < ws.length
    · obtain ⟨b, o, rfl, hcw⟩ := (HS.out.below HL.out.bl) k hlt
      have hbl := block_lt (HS.out.here hlt)
      have hbl : b < w.heap.size := hbl
      have hxk := HX.out _ (getD_mem hlt)
      have hq := q_bd HC.out hxk HW.out
      have e0 : wrap64 ((-c) * gd ws k) = (c.natAbs : Int) * gd ws k := by rw [← HCA.out]; exact IntWalk.wrap64_in _ ⟨by omega, by omega⟩
      have HE := Lib.hid e0
      have hfp := (HL.out.p k hlt).2
      have hfr := (HL.out.r k hlt).2
      have hcp := (HL.out.p k hlt).1
      have hcr := (HL.out.r k hlt).1
      have ⟨hn1, hn2, hn3⟩ := HL.out.ne
      have hd1 : b ≠ w.heap.size := by omega
      have hd2 : b ≠ rb := by omega
      have hd3 : w.heap.size ≠ rb := by omega
      have ⟨hm1, hm2⟩ := HM.out k
      have HMS := Lib.hid (mis_step c ws k hlt)
      generalize hv : (c.natAbs : Int) * gd ws k = v at *
      have HV := Lib.hid hv
      clear hv e0
      obtain ⟨hv1, hv2, hv3, hv4, hv5, hv6⟩ := hq
      have hW1 := HW.out
      have HT1 := Lib.hid (show wrap64 (v.tdiv ws.sum) = v / ws.sum by rw [Int.tdiv_eq_ediv_of_nonneg hv1]; exact IntWalk.wrap64_in _ ⟨by omega, by omega⟩)
      have HT2 := Lib.hid (show v.tmod ws.sum = v % ws.sum from Int.tmod_eq_emod_of_nonneg hv1)
      go_wp2
      go_roundw
      case rel =>
        rw [HE.out, HT1.out, HT2.out]
        exact ⟨k + 1, by omega, by go_num, by rw [HMS.out]; exact ret_val (IntWalk.wrap64_in _ ⟨by omega, by omega⟩), HL.out.step hlt HV.out⟩
      case measure => simp [intOf]; omega
    · have hls := mis_all c ws k hlt
      have hl0 := (left_bd (c.natAbs : Int) ws HW.out).1
      have hl1 := left_le (c.natAbs : Int) ws HW.out
      obtain ⟨m, hme⟩ : ∃ m : Nat, left c.natAbs ws.sum ws = m := ⟨(left c.natAbs ws.sum ws).toNat, by omega⟩
      rw [hme] at hls hl1
      rw [hls]
      have HME := Lib.hid hme
      have hml : m ≤ ws.length := by omega
      have HN := Lib.hid (rests_nn (c := c) HW.out)
      have HRB := Lib.hid (fun j i (hi : i < ws.length) => rem_bd (c := c) HW.out hWb j hi)
      have HL2 := Lib.hid (R2.start HL.out hlt)
      have HRL := Lib.hid (rests_len (c.natAbs : Int) ws.sum ws)
      clear hls hl0 hl1 hme HL
      go_wp2_with fail
      go_loopw [11] (fun t wx => ∃ j : Nat, j ≤ m ∧ t = .int .i64 ((m : Int) - j) ∧ Hid (R2 c ws w w.heap.size rb j wx)) (fun t _ => (intOf t).toNat)
      case atStart => exact ⟨0, Nat.zero_le _, by simp, HL2⟩
      case round =>
        clear HL2
        obtain ⟨j, hj, rfl, HL2⟩ := hrel
        by_cases hjm : j < m
        · go_wp2_with fail
          go_loopw [13, 14] (fun bb i wx => ∃ b k : Nat, b < k ∧ k ≤ ws.length ∧ bb = .int .i64 b ∧ i = .int .i64 k ∧ Hid (Fst (rests c.natAbs ws.sum ws) j b k) ∧ ∃ q, wx = wr.drewN q) (fun _ i _ => ws.length - (intOf i).toNat)
          case atStart => exact ⟨0, 1, by omega, hn, rfl, rfl, Fst.one _ _, 0, rfl⟩
          case round =>
            obtain ⟨b, k, hb, hk, rfl, rfl, HF, q, rfl⟩ := hrel
            have HQ := Lib.hid (fun n => show ∃ q', (wr.drewN q).drewN n = wr.drewN q' from ⟨q + n, World.drewN_drewN wr q n⟩)
            have HL3 := Lib.hid (HL2.out.drewN q)
            generalize wr.drewN q = wq at *
            by_cases hlt : k < ws.length
            · have hcx : wq.cell? ⟨rb, k, none⟩ = some (.int .i64 (rem (rests c.natAbs ws.sum ws) j k)) := (HL3.out.r k hlt).1
              have hcy : wq.cell? ⟨rb, b, none⟩ = some (.int .i64 (rem (rests c.natAbs ws.sum ws) j b)) := (HL3.out.r b (by omega)).1
              have HK := Lib.hid (fun h => HF.out.keep (k := k) h)
              have HT := Lib.hid (fun h => HF.out.take (k := k) h)
              have ⟨x1, x2⟩ := HRB.out j k hlt
              have ⟨y1, y2⟩ := HRB.out j b (by omega)
              have hbi : (b : Int) < ws.length := by omega
              generalize rem (rests c.natAbs ws.sum ws) j k = x at *
              generalize rem (rests c.natAbs ws.sum ws) j b = y at *
              by_cases hxy : y < x
              · go_wp2_with fail
                go_quiet (fail)
                go_wp2
                go_roundw
                case rel => exact ⟨k, k + 1, by omega, by omega, rfl, by go_num, HT.out hxy, HQ.out _⟩
                case measure => simp [intOf]; omega
              · go_wp2_with fail
                go_quiet (fail)
                go_wp2
                go_roundw
                case rel => exact ⟨b, k + 1, by omega, by omega, rfl, by go_num, HK.out (by omega), HQ.out _⟩
                case measure => simp [intOf]; omega
            · have hkn : k = ws.length := by omega
              have hbn : b < ws.length := by omega
              have hrk : rk (rests c.natAbs ws.sum ws) b = j := best_rk (by rw [HRL.out]; omega) (by rw [HRL.out]; exact hbn) HN.out (by rw [HRL.out, ← hkn]; exact HF.out.1) HF.out.2
              have HR := Lib.hid hrk
              clear hrk HF
              have hcp : wq.cell? ⟨w.heap.size, b, none⟩ = some (.int .i64 (c.natAbs * gd ws b / ws.sum + up (rests c.natAbs ws.sum ws) (j : Nat) b)) := (HL3.out.p b hbn).1
              have hfp := (HL3.out.p b hbn).2
              have hcr := (HL3.out.r b hbn).1
              have hfr := (HL3.out.r b hbn).2
              have hq := q_bd HC.out (HX.out _ (getD_mem hbn)) HW.out
              obtain ⟨-, -, q3, q4, -, -⟩ := hq
              have hup := up_cases (rests c.natAbs ws.sum ws) (j : Nat) b
              have ⟨hn1, hn2, hn3⟩ := HL3.out.ne
              have hbi : (b : Int) < ws.length := by omega
              have hd3 : w.heap.size ≠ rb := by omega
              generalize hv : (c.natAbs : Int) * gd ws b / ws.sum + up (rests c.natAbs ws.sum ws) (j : Nat) b = v at *
              have hv1 : 0 ≤ v ∧ v ≤ 1000000000000001 := by omega
              obtain ⟨hv1, hv2⟩ := hv1
              have HV := Lib.hid (show v + 1 = (c.natAbs : Int) * gd ws b / ws.sum + up (rests c.natAbs ws.sum ws) (j : Nat) b + 1 by rw [hv])
              clear hv hup q3 q4 hcr
              have hcr := (HL3.out.r b hbn).1
              go_wp2
              go_roundw
              case rel => exact ⟨j + 1, by omega, by go_num, HL3.out.step hbn HR.out HV.out⟩
              case measure => simp [intOf]; omega
        · have hjm2 : j = m := by omega
          subst hjm2
          have HP := Lib.hid (show Row wr w.heap.size ws.length (fun i => part c.natAbs ws i) from HL2.out.p.congr fun i hi => by rw [part, HME.out]; rfl)
          have HB2 := Lib.hid HL2.out.bl
          clear HL2
          go_wp2_with fail
          go_loopw [15] (fun i wx => ∃ t : Nat, t ≤ ws.length ∧ i = .int .i64 t ∧ Hid (Row wx w.heap.size ws.length (fun i => if i < t then -part c.natAbs ws i else part c.natAbs ws i)) ∧ Hid (Below w.heap.size w wx)) (fun i _ => ws.length - (intOf i).toNat)
          case atStart => exact ⟨0, Nat.zero_le _, rfl, HP.out.congr fun i _ => by rw [if_neg (by omega)], HB2⟩
          case round =>
            clear HP HB2
            obtain ⟨t, ht, rfl, HR, HB⟩ := hrel
            by_cases htl : t < ws.length
            · have hct := (HR.out t htl).1
              have hft := (HR.out t htl).2
              simp only [Nat.lt_irrefl, if_false] at hct
              have hq := q_bd HC.out (HX.out _ (getD_mem htl)) HW.out
              obtain ⟨-, -, q3, q4, -, -⟩ := hq
              have hup := up_cases (rests c.natAbs ws.sum ws) (left c.natAbs ws.sum ws) t
              have hv0 : 0 ≤ part c.natAbs ws t ∧ part c.natAbs ws t ≤ 1000000000000001 := by
                unfold part
                change 0 ≤ (c.natAbs : Int) * gd ws t / ws.sum + _ ∧ (c.natAbs : Int) * gd ws t / ws.sum + _ ≤ _
                omega
              obtain ⟨hv1, hv2⟩ := hv0
              have HV := Lib.hid (show ∀ i, i < ws.length → (if i = t then -part c.natAbs ws t else if i < t then -part c.natAbs ws i else part c.natAbs ws i) = if i < t + 1 then -part c.natAbs ws i else part c.natAbs ws i by
                intro i hi
                by_cases e : i = t
                · subst e; rw [if_pos rfl, if_pos (by omega)]
                · rw [if_neg e]
                  by_cases e2 : i < t
                  · rw [if_pos e2, if_pos (by omega)]
                  · rw [if_neg e2, if_neg (by omega)])
              have HS1 := Lib.hid (HR.out.set' htl HV.out)
              clear HV q3 q4 hup
              generalize part c.natAbs ws t = v at *
              go_wp2
              go_roundw
              case rel => exact ⟨t + 1, by omega, by go_num, HS1, HB.out.setCell (Nat.le_refl _) _⟩
              case measure => simp [intOf]; omega
            · go_wp2
              go_ret2
              refine ⟨_, rfl, Nat.le_refl _, HR.out.congr fun i hi => ?_, HB.out⟩
              rw [if_pos (by omega), sgd, if_pos (by omega)]

set_option maxHeartbeats 400000 in
theorem refsplit_bad1 (c : Int) (A : Option Addr) (cap : Nat) (ws : List Int) (w : World) (hl : ws.length ≤ 9223372036854775807) (ha : am c = false) (hS : Sl w A ws) :
    Calls Tryz.prog 11 #[.int .i64 c, .slice A ws.length cap] w fun e w' => e = .returned (.tuple #[.slice none 0 0, .int .i64 1]) ∧ w = w' := by
  have HS := Lib.hid hS
  have HA := Lib.hid ha
  clear hS ha
  go_enter Tryz.func11, Tryz.ntmps11
  go_wp2_with fail
  refine (refam_b _ false HA.out _).mono ?_
  rintro e w' ⟨rfl, rfl⟩
  go_wp2_with fail
  refine (refwhole_any _ _ _ _ hl HS.out).mono ?_
  rintro e w' ⟨rfl, rfl⟩
  go_wp2_with fail
  go_ret2
  exact ⟨rfl, rfl⟩

set_option maxHeartbeats 400000 in
theorem refsplit_bad2 (c : Int) (A : Option Addr) (cap : Nat) (ws : List Int) (w : World) (hl : ws.length ≤ 9223372036854775807) (ha : am c = true) (hw : wts ws = false) (hS : Sl w A ws) :
    Calls Tryz.prog 11 #[.int .i64 c, .slice A ws.length cap] w fun e w' => e = .returned (.tuple #[.slice none 0 0, .int .i64 1]) ∧ w = w' := by
  have HS := Lib.hid hS
  have HA := Lib.hid ha
  have HW := Lib.hid (whole_no hw)
  clear hS ha
  go_enter Tryz.func11, Tryz.ntmps11
  go_wp2_with fail
  refine (refam_b _ true HA.out _).mono ?_
  rintro e w' ⟨rfl, rfl⟩
  go_wp2_with fail
  refine (refwhole_any _ _ _ _ hl HS.out).mono ?_
  rintro e w' ⟨rfl, rfl⟩
  rw [HW.out]
  go_wp2_with fail
  go_ret2
  exact ⟨rfl, rfl⟩

theorem refsplit_ok (c : Int) (A : Option Addr) (cap : Nat) (ws : List Int) (w : World) (hc : am c = true) (hw : wts ws = true) (hS : Sl w A ws) :
    Calls Tryz.prog 11 #[.int .i64 c, .slice A ws.length cap] w (SplitOk c ws w) := by
  by_cases h : 0 ≤ c
  · exact refsplit_pos c A cap ws w (am_bd.1 hc) h hw hS
  · exact refsplit_neg c A cap ws w (am_bd.1 hc) (by omega) hw hS
theorem refsplit_bad (c : Int) (A : Option Addr) (cap : Nat) (ws : List Int) (w : World) (hl : ws.length ≤ 9223372036854775807) (h : (am c && wts ws) = false) (hS : Sl w A ws) :
    Calls Tryz.prog 11 #[.int .i64 c, .slice A ws.length cap] w fun e w' => e = .returned (.tuple #[.slice none 0 0, .int .i64 1]) ∧ w = w' := by
  cases hc : am c with
  | false => exact refsplit_bad1 c A cap ws w hl hc hS
  | true => exact refsplit_bad2 c A cap ws w hl hc (by rw [hc] at h; simpa using h) hS
end Go.Proofs.YtanncjkkaeeiaaaGreatDoor
