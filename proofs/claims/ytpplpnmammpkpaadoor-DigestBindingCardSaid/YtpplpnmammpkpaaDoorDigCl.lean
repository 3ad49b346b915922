/-
  The laws' clash.
-/
import Derived.Test.YtpplpnmammpkpaaDoorDigZ
import Derived.Laws.StructEq
namespace Go.Proofs.YtpplpnmammpkpaaDoor
open Go.RowKit Go.Sort
open Go.RowKit (Below)
set_option linter.unusedVariables false
set_option linter.unusedSimpArgs false

theorem bel0 {wr wa : World} {o : Obj} (h : Below (wr.alloc o).heap.size (wr.alloc o) wa) : Below wr.heap.size wr wa := on_below (below_new wr o) h
theorem bel1 {wr wa : World} {o : Obj} (h : Below (wr.alloc o).drew.heap.size (wr.alloc o).drew wa) : Below wr.heap.size wr wa := bel0 (undrew_b h)
theorem bel2 {wr wa : World} {o o' : Obj} (h : Below ((wr.alloc o).alloc o').drew.heap.size ((wr.alloc o).alloc o').drew wa) : Below wr.heap.size wr wa := bel0 (bel0 (undrew_b h))
theorem keepc' {w w' : World} {a : Addr} {v : Value} (hb : Below w.heap.size w w') (hc : w.cell? a = some v) : w'.cell? a = some v := by rw [hb.cell (block_lt hc)]; exact hc

theorem keepc'' {w w' : World} {b o : Nat} {v : Value} (hb : Below w.heap.size w w') (hc : w.cell? ⟨b, o, none⟩ = some v) : w'.cell? ⟨b, o, none⟩ = some v := by rw [hb.cell (block_lt hc)]; exact hc

set_option maxRecDepth 100000 in
set_option maxHeartbeats 4000000 in
theorem clash_any (leaf other r : Int) (i n : Nat) (path beside : List Int) (A B : Option Addr) (C D : Nat) (w : World) (h0 : CI r i n 0 (byB 0 [leaf]) (byB 0 [other]) path beside) (hlf : U64 leaf) (hlo : U64 other)
    (hl : path.length ≤ 100000) (hl2 : beside.length ≤ 100000) (hu : ∀ x ∈ path, U64 x) (hu2 : ∀ x ∈ beside, U64 x) (hx : Sk .u64 w A path) (hy : Sk .u64 w B beside) :
    Calls Tryd.prog 24 #[.int .u64 leaf, .int .u64 other, .int .i64 i, .int .i64 n, .slice A path.length C, .slice B beside.length D] w fun e w' => e = .returned (.bool true) ∧ Below w.heap.size w w' := by
  have H0 := Lib.hid h0
  have HLF := Lib.hid hlf
  have HLO := Lib.hid hlo
  have HU := Lib.hid hu
  have HU2 := Lib.hid hu2
  have HX := Lib.hid hx
  have HY := Lib.hid hy
  clear h0 hlf hlo hu hu2 hx hy
  go_enter Tryd.func24, Tryd.ntmps24
  go_wp2_with fail
  refine (bytes_any 0 (some ⟨w.heap.size, 0, none⟩) 1 [leaf] _ (by simp) (u_one HLF.out) (sk_one w leaf _)).mono ?_
  rintro e w1 ⟨A1, C1, rfl, _, _, ⟨hs1, _⟩, hb1⟩
  have hb2 : Below w.heap.size w w1 := ((Below.refl _ _).alloc (Nat.le_refl _) _).trans (hb1.mono (by simp))
  clear hb1
  go_wp2_with fail
  refine (bytes_any 0 (some ⟨w1.heap.size, 0, none⟩) 1 [other] _ (by simp) (u_one HLO.out) (sk_one w1 other _)).mono ?_
  rintro e w2 ⟨A2, C2, rfl, _, _, ⟨hs2, _⟩, hb3⟩
  have hb4 : Below w1.heap.size w1 w2 := ((Below.refl _ _).alloc (Nat.le_refl _) _).trans (hb3.mono (by simp))
  have HI0 := Lib.hid (show CI r i n 0 (byB 0 [leaf]) (byB 0 [other]) path beside ∧ Sk .u8 w2 A1 (byB 0 [leaf]) ∧ Sk .u8 w2 A2 (byB 0 [other]) ∧ (0 < (byB 0 [leaf]).length ∧ (byB 0 [leaf]).length ≤ 100) ∧ (0 < (byB 0 [other]).length ∧ (byB 0 [other]).length ≤ 100) from ⟨H0.out, hs1.below hb4, hs2, by rw [byB_len]; simp, by rw [byB_len]; simp⟩)
  have hB0 := on_below hb2 hb4
  generalize byB 0 [leaf] = la0 at *
  generalize byB 0 [other] = lb0 at *
  clear hb2 hb3 hb4 hs1 hs2 H0 HLF HLO
  go_wp2_with fail
  go_loopw [2, 3, 13, 14, 15] (fun a b va vb kk wr => ∃ (i n k : Nat) (A1 B1 : Option Addr) (C1 D1 : Nat) (la lb : List Int), a = .int .i64 i ∧ b = .int .i64 n ∧ va = .slice A1 (List.length la) C1 ∧ vb = .slice B1 (List.length lb) D1 ∧ kk = .int .i64 k ∧ k ≤ 100000 ∧ Hid (CI r i n k la lb path beside ∧ Sk .u8 wr A1 la ∧ Sk .u8 wr B1 lb ∧ (0 < la.length ∧ la.length ≤ 100) ∧ (0 < lb.length ∧ lb.length ≤ 100)) ∧ Below w.heap.size w wr) (fun _ b _ _ _ _ => (intOf b).toNat)
  case atStart => exact ⟨i, n, 0, A1, A2, C1, C2, la0, lb0, rfl, rfl, rfl, rfl, rfl, by omega, HI0, hB0⟩
  case round =>
    clear HI0 hB0
    obtain ⟨i, n, k, A1, B1, C1, D1, la, lb, rfl, rfl, rfl, rfl, rfl, hk, HI, hb⟩ := hrel
    obtain ⟨ba, oa, rfl, -⟩ := HI.out.2.1 0 HI.out.2.2.2.1.1
    obtain ⟨bb, ob, rfl, -⟩ := HI.out.2.2.1 0 HI.out.2.2.2.2.1
    have hca := conv_str (C := C1) HI.out.2.1
    have hcb := conv_str (C := D1) HI.out.2.2.1
    have hza : la.length ≤ 100 := HI.out.2.2.2.1.2
    have hzb : lb.length ≤ 100 := HI.out.2.2.2.2.2
    have HCI := Lib.hid HI.out.1
    have SA := Lib.hid HI.out.2.1
    have SB := Lib.hid HI.out.2.2.1
    clear HI
    obtain ⟨x, hx⟩ : ∃ x, dig la = x := ⟨_, rfl⟩
    obtain ⟨y, hy⟩ : ∃ y, dig lb = y := ⟨_, rfl⟩
    have DX := Lib.hid hx
    have DY := Lib.hid hy
    clear hx hy
    by_cases hcl : la ≠ lb ∧ dig la = dig lb
    · have hxy : (x == y) = true := by rw [beq_iff_eq, ← DX.out, ← DY.out]; exact hcl.2
      have hsn : ((strOfNums la).toList == (strOfNums lb).toList) = false := by rw [ByteArray.toList_eq, ByteArray.toList_eq, beq_eq_false_iff_ne]; exact fun e => hcl.1 (by rw [← strB_num HCI.out.ua, ← strB_num HCI.out.ub]; unfold strB; rw [e])
      clear hcl
      generalize strOfNums la = SLA at *
      generalize strOfNums lb = SLB at *
      go_wp2_with fail
      refine (sum_is _ C1 la x DX.out _ (by omega) SA.out).mono ?_
      rintro e w' ⟨rfl, rfl⟩
      go_wp2_with fail
      refine (sum_is _ D1 lb y DY.out _ (by omega) SB.out).mono ?_
      rintro e w' ⟨rfl, rfl⟩
      go_wp2_with fail
      go_ret
      exact ⟨rfl, hb⟩
    have hnc : la = lb ∨ dig la ≠ dig lb := by
      by_cases e : la = lb
      · exact .inl e
      · exact .inr fun e2 => hcl ⟨e, e2⟩
    have NC := Lib.hid hnc
    clear hcl hnc
    by_cases heq : la = lb
    · have hs : ((strOfNums la).toList == (strOfNums lb).toList) = true := by rw [heq, beq_self_eq_true]
      clear heq
      generalize strOfNums la = SLA at *
      generalize strOfNums lb = SLB at *
      go_wp2_with fail
      refine (sum_is _ C1 la x DX.out _ (by omega) SA.out).mono ?_
      rintro e w' ⟨rfl, rfl⟩
      go_wp2_with fail
      refine (sum_is _ D1 lb y DY.out _ (by omega) SB.out).mono ?_
      rintro e w' ⟨rfl, rfl⟩
      go_wp2_with fail
      go_loop [2, 3] (fun a b => ∃ i' n' : Nat, a = .int .i64 i' ∧ b = .int .i64 n' ∧ n' ≤ n ∧ Hid (CI r i' n' k la lb path beside)) (fun _ b => (intOf b).toNat)
      case atStart => exact ⟨i, n, rfl, rfl, Nat.le_refl _, HCI⟩
      case round =>
        obtain ⟨i', n', rfl, rfl, hn', HC⟩ := hrel
        have hi' := HC.out.hi
        have hn2 := HC.out.hn
        clear HCI hca hcb
        by_cases h1 : 1 < n'
        · have hd1 : decide ((1 : Int) < (n' : Int)) = true := by rw [decide_eq_true_eq]; omega
          have hd2 : decide ((n' : Int) ≤ 1) = false := by rw [decide_eq_false_iff_not]; omega
          by_cases ho : i' % 2 = 1
          · have ho1 : ((i' : Int) % 2 == 0) = false := by rw [beq_eq_false_iff_ne]; omega
            have ho2 : ((i' : Int) % 2 == 1) = true := by rw [beq_iff_eq]; omega
            obtain ⟨k1, k2⟩ := HC.out.lens h1 (.inl ho)
            have HN := Lib.hid (HC.out.odd h1 ho NC.out HU.out HU2.out)
            rw [DX.out, DY.out] at HN
            obtain ⟨b1, o1, rfl, hc1⟩ := HX.out k k1
            obtain ⟨b2, o2, rfl, hc2⟩ := HY.out k k2
            have x1 := keepc'' hb hc1
            have x2 := keepc'' hb hc2
            have Hp := Lib.hid (gd_u HU.out k)
            have Hq := Lib.hid (gd_u HU2.out k)
            have Hx := Lib.hid (show U64 x from DX.out ▸ dig_u la)
            have Hy := Lib.hid (show U64 y from DY.out ▸ dig_u lb)
            generalize gd path k = p at *
            generalize gd beside k = q at *
            have hk1 : (k : Int) < (path.length : Int) := by omega
            have hk2 : (k : Int) < (beside.length : Int) := by omega
            have hk3 : decide ((path.length : Int) ≤ (k : Int)) = false := by rw [decide_eq_false_iff_not]; omega
            have hk4 : decide ((beside.length : Int) ≤ (k : Int)) = false := by rw [decide_eq_false_iff_not]; omega
            have HCA := Lib.hid (show ∀ g W, Sk .u64 W (some ⟨g, 0, none⟩) [p, x] → Calls Tryd.prog 23 #[.int .u8 1, .slice (some ⟨g, 0, none⟩) 2 2] W (Mkk .u8 W (byB 1 [p, x])) from fun g W h => bytes_any 1 (some ⟨g, 0, none⟩) 2 [p, x] W (by simp) (u_two Hp.out Hx.out) h)
            have HCB := Lib.hid (show ∀ g W, Sk .u64 W (some ⟨g, 0, none⟩) [q, y] → Calls Tryd.prog 23 #[.int .u8 1, .slice (some ⟨g, 0, none⟩) 2 2] W (Mkk .u8 W (byB 1 [q, y])) from fun g W h => bytes_any 1 (some ⟨g, 0, none⟩) 2 [q, y] W (by simp) (u_two Hq.out Hy.out) h)
            have hm : (n' + 1) / 2 < n := by omega
            clear HC ho hc1 hc2 DX DY NC SA SB
            go_wp2_with fail
            go_region_held3 (fun W => W.cell? ⟨b1, o1 + k, none⟩ = some (.int .u64 p) ∧ W.cell? ⟨b2, o2 + k, none⟩ = some (.int .u64 q))
              (first | go_keep | exact ⟨x1, x2⟩ | (go_split_ands; exact ⟨keepc' hbc (by with_reducible assumption), keepc' hbc (by with_reducible assumption)⟩))
              (first
                | (go_at_call 23; (with_reducible refine (HCA.out _ _ ?_).mono ?_); (refine sk_cells2 ?_ ?_ <;> (simp [go_sem]; done)); rintro e wa ⟨A3, C3, rfl, _, _, ⟨hsa, _⟩, hbc⟩; have hba := hbc; obtain ⟨hcc, hff⟩ := bcell hba)
                | (go_at_call 23; (with_reducible refine (HCB.out _ _ ?_).mono ?_); (refine sk_cells2 ?_ ?_ <;> (simp [go_sem, hcc]; done)); rintro e wb ⟨A4, C4, rfl, _, _, ⟨hsb, _⟩, hbc⟩; have hbb := hbc))
            all_goals
              have hwa : Below wr.heap.size wr wa := by first | exact bel1 hba | exact bel2 hba
              have hwb : Below wa.heap.size wa wb := by first | exact hbb | exact bel0 hbb
              have hB := on_below hb (on_below hwa hwb)
              have HM := Lib.hid (show CI r (i' / 2) ((n' + 1) / 2) (k + 1) (byB 1 [p, x]) (byB 1 [q, y]) path beside ∧ Sk .u8 wb A3 (byB 1 [p, x]) ∧ Sk .u8 wb A4 (byB 1 [q, y]) ∧ (0 < (byB 1 [p, x]).length ∧ (byB 1 [p, x]).length ≤ 100) ∧ (0 < (byB 1 [q, y]).length ∧ (byB 1 [q, y]).length ≤ 100) from ⟨HN.out, hsa.below hwb, hsb, by rw [byB_len]; simp, by rw [byB_len]; simp⟩)
              generalize byB 1 [p, x] = la2 at *
              generalize byB 1 [q, y] = lb2 at *
              clear hwa hwb hba hbb hbc hcc hff hsa hsb HN HCA HCB x1 x2 hb
              go_wp2_with fail
              go_roundw
              case rel => exact ⟨i' / 2, (n' + 1) / 2, k + 1, A3, A4, C3, C4, la2, lb2, by go_num, by go_num, rfl, rfl, by go_num, by omega, HM, hB⟩
              case measure => simp [intOf]; omega
          · have ho1 : ((i' : Int) % 2 == 0) = true := by rw [beq_iff_eq]; omega
            have ho2 : ((i' : Int) % 2 == 1) = false := by rw [beq_eq_false_iff_ne]; omega
            by_cases hj : i' + 1 < n'
            · have hd3 : decide ((n' : Int) ≤ (i' : Int) + 1) = false := by rw [decide_eq_false_iff_not]; omega
              obtain ⟨k1, k2⟩ := HC.out.lens h1 (.inr hj)
              have HN := Lib.hid (HC.out.even h1 ho hj NC.out HU.out HU2.out)
              rw [DX.out, DY.out] at HN
              obtain ⟨b1, o1, rfl, hc1⟩ := HX.out k k1
              obtain ⟨b2, o2, rfl, hc2⟩ := HY.out k k2
              have x1 := keepc'' hb hc1
              have x2 := keepc'' hb hc2
              have Hp := Lib.hid (gd_u HU.out k)
              have Hq := Lib.hid (gd_u HU2.out k)
              have Hx := Lib.hid (show U64 x from DX.out ▸ dig_u la)
              have Hy := Lib.hid (show U64 y from DY.out ▸ dig_u lb)
              generalize gd path k = p at *
              generalize gd beside k = q at *
              have hk1 : (k : Int) < (path.length : Int) := by omega
              have hk2 : (k : Int) < (beside.length : Int) := by omega
              have hk3 : decide ((path.length : Int) ≤ (k : Int)) = false := by rw [decide_eq_false_iff_not]; omega
              have hk4 : decide ((beside.length : Int) ≤ (k : Int)) = false := by rw [decide_eq_false_iff_not]; omega
              have HCA := Lib.hid (show ∀ g W, Sk .u64 W (some ⟨g, 0, none⟩) [x, p] → Calls Tryd.prog 23 #[.int .u8 1, .slice (some ⟨g, 0, none⟩) 2 2] W (Mkk .u8 W (byB 1 [x, p])) from fun g W h => bytes_any 1 (some ⟨g, 0, none⟩) 2 [x, p] W (by simp) (u_two Hx.out Hp.out) h)
              have HCB := Lib.hid (show ∀ g W, Sk .u64 W (some ⟨g, 0, none⟩) [y, q] → Calls Tryd.prog 23 #[.int .u8 1, .slice (some ⟨g, 0, none⟩) 2 2] W (Mkk .u8 W (byB 1 [y, q])) from fun g W h => bytes_any 1 (some ⟨g, 0, none⟩) 2 [y, q] W (by simp) (u_two Hy.out Hq.out) h)
              have hm : (n' + 1) / 2 < n := by omega
              clear HC ho hc1 hc2 DX DY NC SA SB
              go_wp2_with fail
              go_region_held3 (fun W => W.cell? ⟨b1, o1 + k, none⟩ = some (.int .u64 p) ∧ W.cell? ⟨b2, o2 + k, none⟩ = some (.int .u64 q))
                (first | go_keep | exact ⟨x1, x2⟩ | (go_split_ands; exact ⟨keepc' hbc (by with_reducible assumption), keepc' hbc (by with_reducible assumption)⟩))
                (first
                  | (go_at_call 23; (with_reducible refine (HCA.out _ _ ?_).mono ?_); (refine sk_cells2 ?_ ?_ <;> (simp [go_sem]; done)); rintro e wa ⟨A3, C3, rfl, _, _, ⟨hsa, _⟩, hbc⟩; have hba := hbc; obtain ⟨hcc, hff⟩ := bcell hba)
                  | (go_at_call 23; (with_reducible refine (HCB.out _ _ ?_).mono ?_); (refine sk_cells2 ?_ ?_ <;> (simp [go_sem, hcc]; done)); rintro e wb ⟨A4, C4, rfl, _, _, ⟨hsb, _⟩, hbc⟩; have hbb := hbc))
              all_goals
                have hwa : Below wr.heap.size wr wa := by first | exact bel1 hba | exact bel2 hba
                have hwb : Below wa.heap.size wa wb := by first | exact hbb | exact bel0 hbb
                have hB := on_below hb (on_below hwa hwb)
                have HM := Lib.hid (show CI r (i' / 2) ((n' + 1) / 2) (k + 1) (byB 1 [x, p]) (byB 1 [y, q]) path beside ∧ Sk .u8 wb A3 (byB 1 [x, p]) ∧ Sk .u8 wb A4 (byB 1 [y, q]) ∧ (0 < (byB 1 [x, p]).length ∧ (byB 1 [x, p]).length ≤ 100) ∧ (0 < (byB 1 [y, q]).length ∧ (byB 1 [y, q]).length ≤ 100) from ⟨HN.out, hsa.below hwb, hsb, by rw [byB_len]; simp, by rw [byB_len]; simp⟩)
                generalize byB 1 [x, p] = la2 at *
                generalize byB 1 [y, q] = lb2 at *
                clear hwa hwb hba hbb hbc hcc hff hsa hsb HN HCA HCB x1 x2 hb
                go_wp2_with fail
                go_roundw
                case rel => exact ⟨i' / 2, (n' + 1) / 2, k + 1, A3, A4, C3, C4, la2, lb2, by go_num, by go_num, rfl, rfl, by go_num, by omega, HM, hB⟩
                case measure => simp [intOf]; omega
            · have hd3 : decide ((n' : Int) ≤ (i' : Int) + 1) = true := by rw [decide_eq_true_eq]; omega
              have HN := Lib.hid (HC.out.up h1 ho hj)
              clear HC ho
              go_wp2_with fail
              go_round
              case rel => exact ⟨i' / 2, (n' + 1) / 2, by go_num, by go_num, by omega, HN⟩
              case measure => simp [intOf]; omega
        · exact (HC.out.last h1 NC.out).elim
    · have hs : ((strOfNums la).toList == (strOfNums lb).toList) = false := by rw [ByteArray.toList_eq, ByteArray.toList_eq, beq_eq_false_iff_ne]; exact fun e => heq (by rw [← strB_num HCI.out.ua, ← strB_num HCI.out.ub]; unfold strB; rw [e])
      have hq : (x == y) = false := by rw [beq_eq_false_iff_ne, ← DX.out, ← DY.out]; exact NC.out.resolve_left heq
      clear heq
      generalize strOfNums la = SLA at *
      generalize strOfNums lb = SLB at *
      go_wp2_with fail
      refine (sum_is _ C1 la x DX.out _ (by omega) SA.out).mono ?_
      rintro e w' ⟨rfl, rfl⟩
      go_wp2_with fail
      refine (sum_is _ D1 lb y DY.out _ (by omega) SB.out).mono ?_
      rintro e w' ⟨rfl, rfl⟩
      go_wp2_with fail
      go_loop [2, 3] (fun a b => ∃ i' n' : Nat, a = .int .i64 i' ∧ b = .int .i64 n' ∧ n' ≤ n ∧ Hid (CI r i' n' k la lb path beside)) (fun _ b => (intOf b).toNat)
      case atStart => exact ⟨i, n, rfl, rfl, Nat.le_refl _, HCI⟩
      case round =>
        obtain ⟨i', n', rfl, rfl, hn', HC⟩ := hrel
        have hi' := HC.out.hi
        have hn2 := HC.out.hn
        clear HCI hca hcb
        by_cases h1 : 1 < n'
        · have hd1 : decide ((1 : Int) < (n' : Int)) = true := by rw [decide_eq_true_eq]; omega
          have hd2 : decide ((n' : Int) ≤ 1) = false := by rw [decide_eq_false_iff_not]; omega
          by_cases ho : i' % 2 = 1
          · have ho1 : ((i' : Int) % 2 == 0) = false := by rw [beq_eq_false_iff_ne]; omega
            have ho2 : ((i' : Int) % 2 == 1) = true := by rw [beq_iff_eq]; omega
            obtain ⟨k1, k2⟩ := HC.out.lens h1 (.inl ho)
            have HN := Lib.hid (HC.out.odd h1 ho NC.out HU.out HU2.out)
            rw [DX.out, DY.out] at HN
            obtain ⟨b1, o1, rfl, hc1⟩ := HX.out k k1
            obtain ⟨b2, o2, rfl, hc2⟩ := HY.out k k2
            have x1 := keepc'' hb hc1
            have x2 := keepc'' hb hc2
            have Hp := Lib.hid (gd_u HU.out k)
            have Hq := Lib.hid (gd_u HU2.out k)
            have Hx := Lib.hid (show U64 x from DX.out ▸ dig_u la)
            have Hy := Lib.hid (show U64 y from DY.out ▸ dig_u lb)
            generalize gd path k = p at *
            generalize gd beside k = q at *
            have hk1 : (k : Int) < (path.length : Int) := by omega
            have hk2 : (k : Int) < (beside.length : Int) := by omega
            have hk3 : decide ((path.length : Int) ≤ (k : Int)) = false := by rw [decide_eq_false_iff_not]; omega
            have hk4 : decide ((beside.length : Int) ≤ (k : Int)) = false := by rw [decide_eq_false_iff_not]; omega
            have HCA := Lib.hid (show ∀ g W, Sk .u64 W (some ⟨g, 0, none⟩) [p, x] → Calls Tryd.prog 23 #[.int .u8 1, .slice (some ⟨g, 0, none⟩) 2 2] W (Mkk .u8 W (byB 1 [p, x])) from fun g W h => bytes_any 1 (some ⟨g, 0, none⟩) 2 [p, x] W (by simp) (u_two Hp.out Hx.out) h)
            have HCB := Lib.hid (show ∀ g W, Sk .u64 W (some ⟨g, 0, none⟩) [q, y] → Calls Tryd.prog 23 #[.int .u8 1, .slice (some ⟨g, 0, none⟩) 2 2] W (Mkk .u8 W (byB 1 [q, y])) from fun g W h => bytes_any 1 (some ⟨g, 0, none⟩) 2 [q, y] W (by simp) (u_two Hq.out Hy.out) h)
            have hm : (n' + 1) / 2 < n := by omega
            clear HC ho hc1 hc2 DX DY NC SA SB
            go_wp2_with fail
            go_region_held3 (fun W => W.cell? ⟨b1, o1 + k, none⟩ = some (.int .u64 p) ∧ W.cell? ⟨b2, o2 + k, none⟩ = some (.int .u64 q))
              (first | go_keep | exact ⟨x1, x2⟩ | (go_split_ands; exact ⟨keepc' hbc (by with_reducible assumption), keepc' hbc (by with_reducible assumption)⟩))
              (first
                | (go_at_call 23; (with_reducible refine (HCA.out _ _ ?_).mono ?_); (refine sk_cells2 ?_ ?_ <;> (simp [go_sem]; done)); rintro e wa ⟨A3, C3, rfl, _, _, ⟨hsa, _⟩, hbc⟩; have hba := hbc; obtain ⟨hcc, hff⟩ := bcell hba)
                | (go_at_call 23; (with_reducible refine (HCB.out _ _ ?_).mono ?_); (refine sk_cells2 ?_ ?_ <;> (simp [go_sem, hcc]; done)); rintro e wb ⟨A4, C4, rfl, _, _, ⟨hsb, _⟩, hbc⟩; have hbb := hbc))
            all_goals
              have hwa : Below wr.heap.size wr wa := by first | exact bel1 hba | exact bel2 hba
              have hwb : Below wa.heap.size wa wb := by first | exact hbb | exact bel0 hbb
              have hB := on_below hb (on_below hwa hwb)
              have HM := Lib.hid (show CI r (i' / 2) ((n' + 1) / 2) (k + 1) (byB 1 [p, x]) (byB 1 [q, y]) path beside ∧ Sk .u8 wb A3 (byB 1 [p, x]) ∧ Sk .u8 wb A4 (byB 1 [q, y]) ∧ (0 < (byB 1 [p, x]).length ∧ (byB 1 [p, x]).length ≤ 100) ∧ (0 < (byB 1 [q, y]).length ∧ (byB 1 [q, y]).length ≤ 100) from ⟨HN.out, hsa.below hwb, hsb, by rw [byB_len]; simp, by rw [byB_len]; simp⟩)
              generalize byB 1 [p, x] = la2 at *
              generalize byB 1 [q, y] = lb2 at *
              clear hwa hwb hba hbb hbc hcc hff hsa hsb HN HCA HCB x1 x2 hb
              go_wp2_with fail
              go_roundw
              case rel => exact ⟨i' / 2, (n' + 1) / 2, k + 1, A3, A4, C3, C4, la2, lb2, by go_num, by go_num, rfl, rfl, by go_num, by omega, HM, hB⟩
              case measure => simp [intOf]; omega
          · have ho1 : ((i' : Int) % 2 == 0) = true := by rw [beq_iff_eq]; omega
            have ho2 : ((i' : Int) % 2 == 1) = false := by rw [beq_eq_false_iff_ne]; omega
            by_cases hj : i' + 1 < n'
            · have hd3 : decide ((n' : Int) ≤ (i' : Int) + 1) = false := by rw [decide_eq_false_iff_not]; omega
              obtain ⟨k1, k2⟩ := HC.out.lens h1 (.inr hj)
              have HN := Lib.hid (HC.out.even h1 ho hj NC.out HU.out HU2.out)
              rw [DX.out, DY.out] at HN
              obtain ⟨b1, o1, rfl, hc1⟩ := HX.out k k1
              obtain ⟨b2, o2, rfl, hc2⟩ := HY.out k k2
              have x1 := keepc'' hb hc1
              have x2 := keepc'' hb hc2
              have Hp := Lib.hid (gd_u HU.out k)
              have Hq := Lib.hid (gd_u HU2.out k)
              have Hx := Lib.hid (show U64 x from DX.out ▸ dig_u la)
              have Hy := Lib.hid (show U64 y from DY.out ▸ dig_u lb)
              generalize gd path k = p at *
              generalize gd beside k = q at *
              have hk1 : (k : Int) < (path.length : Int) := by omega
              have hk2 : (k : Int) < (beside.length : Int) := by omega
              have hk3 : decide ((path.length : Int) ≤ (k : Int)) = false := by rw [decide_eq_false_iff_not]; omega
              have hk4 : decide ((beside.length : Int) ≤ (k : Int)) = false := by rw [decide_eq_false_iff_not]; omega
              have HCA := Lib.hid (show ∀ g W, Sk .u64 W (some ⟨g, 0, none⟩) [x, p] → Calls Tryd.prog 23 #[.int .u8 1, .slice (some ⟨g, 0, none⟩) 2 2] W (Mkk .u8 W (byB 1 [x, p])) from fun g W h => bytes_any 1 (some ⟨g, 0, none⟩) 2 [x, p] W (by simp) (u_two Hx.out Hp.out) h)
              have HCB := Lib.hid (show ∀ g W, Sk .u64 W (some ⟨g, 0, none⟩) [y, q] → Calls Tryd.prog 23 #[.int .u8 1, .slice (some ⟨g, 0, none⟩) 2 2] W (Mkk .u8 W (byB 1 [y, q])) from fun g W h => bytes_any 1 (some ⟨g, 0, none⟩) 2 [y, q] W (by simp) (u_two Hy.out Hq.out) h)
              have hm : (n' + 1) / 2 < n := by omega
              clear HC ho hc1 hc2 DX DY NC SA SB
              go_wp2_with fail
              go_region_held3 (fun W => W.cell? ⟨b1, o1 + k, none⟩ = some (.int .u64 p) ∧ W.cell? ⟨b2, o2 + k, none⟩ = some (.int .u64 q))
                (first | go_keep | exact ⟨x1, x2⟩ | (go_split_ands; exact ⟨keepc' hbc (by with_reducible assumption), keepc' hbc (by with_reducible assumption)⟩))
                (first
                  | (go_at_call 23; (with_reducible refine (HCA.out _ _ ?_).mono ?_); (refine sk_cells2 ?_ ?_ <;> (simp [go_sem]; done)); rintro e wa ⟨A3, C3, rfl, _, _, ⟨hsa, _⟩, hbc⟩; have hba := hbc; obtain ⟨hcc, hff⟩ := bcell hba)
                  | (go_at_call 23; (with_reducible refine (HCB.out _ _ ?_).mono ?_); (refine sk_cells2 ?_ ?_ <;> (simp [go_sem, hcc]; done)); rintro e wb ⟨A4, C4, rfl, _, _, ⟨hsb, _⟩, hbc⟩; have hbb := hbc))
              all_goals
                have hwa : Below wr.heap.size wr wa := by first | exact bel1 hba | exact bel2 hba
                have hwb : Below wa.heap.size wa wb := by first | exact hbb | exact bel0 hbb
                have hB := on_below hb (on_below hwa hwb)
                have HM := Lib.hid (show CI r (i' / 2) ((n' + 1) / 2) (k + 1) (byB 1 [x, p]) (byB 1 [y, q]) path beside ∧ Sk .u8 wb A3 (byB 1 [x, p]) ∧ Sk .u8 wb A4 (byB 1 [y, q]) ∧ (0 < (byB 1 [x, p]).length ∧ (byB 1 [x, p]).length ≤ 100) ∧ (0 < (byB 1 [y, q]).length ∧ (byB 1 [y, q]).length ≤ 100) from ⟨HN.out, hsa.below hwb, hsb, by rw [byB_len]; simp, by rw [byB_len]; simp⟩)
                generalize byB 1 [x, p] = la2 at *
                generalize byB 1 [y, q] = lb2 at *
                clear hwa hwb hba hbb hbc hcc hff hsa hsb HN HCA HCB x1 x2 hb
                go_wp2_with fail
                go_roundw
                case rel => exact ⟨i' / 2, (n' + 1) / 2, k + 1, A3, A4, C3, C4, la2, lb2, by go_num, by go_num, rfl, rfl, by go_num, by omega, HM, hB⟩
                case measure => simp [intOf]; omega
            · have hd3 : decide ((n' : Int) ≤ (i' : Int) + 1) = true := by rw [decide_eq_true_eq]; omega
              have HN := Lib.hid (HC.out.up h1 ho hj)
              clear HC ho
              go_wp2_with fail
              go_round
              case rel => exact ⟨i' / 2, (n' + 1) / 2, by go_num, by go_num, by omega, HN⟩
              case measure => simp [intOf]; omega
        · exact (HC.out.last h1 NC.out).elim
end Go.Proofs.YtpplpnmammpkpaaDoor
