/-
  The reference of package span: Combined, of any combination that takes nothing of nothing.
-/
import Derived.Test.YtgdgpfpihpofdaaSpnGA
import Derived.Deep.AppendLies
namespace Go.Proofs.Ytgdgpfpihpofdaa
open Go.RowKit Go.Sort
open Go.RowKit (Below)
set_option linter.unusedVariables false

theorem wrap_one {i : Nat} (h : i ≤ 100000) : IntKind.i64.wrap ((i : Int) + 1) = (i : Int) + 1 := IntWalk.i64_in _ ⟨by omega, by omega⟩
theorem undrew {w w' : World} {r : Option Nat} (h : w.drew.grownBy w' r) : w.grownBy w' r := (show w.grownBy w.drew r from ⟨rfl, rfl, rfl, Nat.le_refl _, fun _ _ _ => rfl⟩).trans h
theorem cell_far2 {w w' : World} {o : Obj} {b k : Nat} {v : Value} {r : Option Nat} (h : (w.alloc o).drew.grownBy w' r) (hf : some b ≠ r) (hc : w.cell? ⟨b, k, none⟩ = some v) : w'.cell? ⟨b, k, none⟩ = some v := by
  have h1 : (w.alloc o).cell? ⟨b, k, none⟩ = some v := (((Below.refl w.heap.size w).alloc (Nat.le_refl _) o).cell (p := ⟨b, k, none⟩) (block_lt hc)).trans hc
  rw [(undrew h).cell_far _ (block_lt h1) hf]
  exact h1
theorem far_g {b g B : Nat} {m n : Nat} (hg : B ≤ g) (hb : b < B) : some b ≠ (Value.slice (some ⟨g, 0, none⟩) m n).ownBlock := by
  intro h
  simp [Value.ownBlock] at h
  omega
theorem far_nil {w : World} {base : Nat} {e : TypeId} {A : Option Addr} {C b : Nat} (h : w.ownsRow base e 2 (.slice A 0 C) 0 (flatV [])) (hb : b < base) : some b ≠ (Value.slice A 0 C).ownBlock := by
  intro he
  have := (h.lt b he.symm).1
  omega
set_option maxRecDepth 100000 in
set_option maxHeartbeats 4000000 in
theorem rcomb_any (op : Bool → Bool → Bool) (h0 : op false false = false) (K : Int) (htk : ∀ a b W, Calls Try.prog 44 #[.int .i64 K, .bool a, .bool b] W fun e w' => e = .returned (.bool (op a b)) ∧ W = w') (A B : Option Addr) (C D : Nat) (xs ys : List Spn) (w : World) (hl : xs.length ≤ 1000) (hl2 : ys.length ≤ 1000) (hx : SlS w A xs) (hy : SlS w B ys) (cx : chk (-1) xs = true) (cy : chk (-1) ys = true) :
    Calls Try.prog 39 #[.int .i64 K, .slice A xs.length C, .slice B ys.length D] w (MkS w (cmb op xs ys)) := by
  obtain ⟨i0, hi0, hz0, hz1, hz2⟩ := info_parts (show (Try.prog.info? 39).map (fun i => (i.zero, i.size, i.bytes)) = some (some (.agg #[.int .i64 0, .int .i64 0]), 2, 16) by kernel_rfl)
  have HX := Lib.hid hx
  have H0 := Lib.hid h0
  have TK := Lib.hid htk
  have HY := Lib.hid hy
  have CX := Lib.hid cx
  have CY := Lib.hid cy
  have EX := Lib.hid (ends_sorted cx).1
  have EY := Lib.hid (ends_sorted cy).1
  have hlx := ends_len xs
  have hly := ends_len ys
  have hlx2 : (endsS xs).length ≤ 2000 := by omega
  have hly2 : (endsS ys).length ≤ 2000 := by omega
  have HLX := Lib.hid hlx
  have HLY := Lib.hid hly
  clear hx hy cx cy hlx hly htk h0
  go_enter Try.func39, Try.ntmps39
  go_wp2_with fail
  refine (rends_any A C xs _ hl HX.out).mono ?_
  rintro e w1 ⟨A1, C1, rfl, hs1, hb1⟩
  go_wp2_with fail
  refine (rends_any B D ys _ hl2 (HY.out.below hb1)).mono ?_
  rintro e w2 ⟨A2, C2, rfl, hs2, hb2⟩
  go_wp2_with fail
  refine (rmerged_any A1 A2 C1 C2 _ _ _ hlx2 hly2 (hs1.below hb2) hs2 EX.out EY.out).mono ?_
  rintro e w3 ⟨X, hp, hso, XA, XC, rfl, hsX, hb3⟩
  have hB := on_below (on_below hb1 hb2) hb3
  have PM := Lib.hid hp
  have SO := Lib.hid hso
  have SX := Lib.hid hsX
  have HXl := Lib.hid hp.length_eq
  clear hp hso hsX hs1 hs2 hb1 hb2 hb3
  have hXl : X.length ≤ 4000 := by have := HXl.out; rw [List.length_append] at this; omega
  have PC := Lib.hid (pieces (op := op) H0.out CX.out CY.out (fun e => PM.out.mem_iff) SO.out)
  clear EX EY PM SO HXl HLX HLY hlx2 hly2 CX CY
  go_wp2_with fail
  go_loopw [8, 9] (fun v ii wr => ∃ (i : Nat) (zs : List Spn), (X.length = 0 ∨ i < X.length) ∧ zs.length ≤ i ∧ i ≤ X.length ∧ ii = .int .i64 i ∧ Hid (X.length = 0 ∧ zs = [] ∨ i < X.length ∧ Bd (tkS op xs ys) zs (gd X i)) ∧ wr.ownsRow w3.heap.size 39 2 v zs.length (flatV zs) ∧ Below w3.heap.size w3 wr) (fun _ ii _ => X.length - (intOf ii).toNat)
  case atStart =>
    refine ⟨0, [], by omega, Nat.zero_le _, Nat.zero_le _, rfl, ?_, World.ownsRow_nil _ _ _ _, Below.refl _ _⟩
    by_cases h : X.length = 0
    · exact .inl ⟨h, rfl⟩
    · exact .inr ⟨by omega, PC.out.start (by omega)⟩
  case round =>
    obtain ⟨i, zs, hi0', hzi, hiX, rfl, HI, hown, hb⟩ := hrel
    by_cases hlt : i + 1 < X.length
    · obtain ⟨bX, oX, rfl, hcx0⟩ := SX.out i (by omega)
      have hcx1 := sl_here SX.out hlt
      have hbX : bX < w3.heap.size := block_lt hcx0
      have HXC := Lib.hid (fun W1 (h1 : Below w3.heap.size w3 W1) => show W1.cell? ⟨bX, oX + i, none⟩ = some (.int .i64 (gd X i)) ∧ W1.cell? ⟨bX, oX + (i + 1), none⟩ = some (.int .i64 (gd X (i + 1))) from ⟨(h1.cell (p := ⟨bX, oX + i, none⟩) hbX).trans hcx0, (h1.cell (p := ⟨bX, oX + (i + 1), none⟩) hbX).trans hcx1⟩)
      have HB := Lib.hid ((HI.out).resolve_left fun h => by omega).2
      have hst := PC.out.step i hlt
      have hh := (PC.out.bd _ (getD_mem hlt)).2
      have HT := Lib.hid hst.2
      have hch := hst.1
      have HR := Lib.hid (show tkS op xs ys (gd X i) = op (hasS xs (gd X i)) (hasS ys (gd X i)) from rfl)
      clear hcx0 hcx1 hst HI
      generalize gd X i = c at *
      generalize hge : gd X (i + 1) = h at *
      have HGE := Lib.hid hge
      clear hge
      have ⟨x0, x1⟩ := HXC.out _ hb
      have hbw := hB.trans (hb.mono hB.size)
      go_wp2_with fail
      refine (rin_any A C xs c _ (by omega) (HX.out.below hbw)).mono ?_
      rintro e w' ⟨rfl, rfl⟩
      go_wp2_with fail
      refine (rin_any B D ys c _ (by omega) (HY.out.below hbw)).mono ?_
      rintro e w' ⟨rfl, rfl⟩
      generalize hasS xs c = pa at *
      generalize hasS ys c = pb at *
      by_cases hce : c = h
      · have hce' : (c == h) = true := by rw [beq_iff_eq]; exact hce
        have HN := Lib.hid (show Bd (tkS op xs ys) zs h by rw [← hce]; exact HB.out)
        clear hce HB
        go_wp2_with fail
        go_quiet (fail)
        replace hown := own_drewN hown nq
        replace hb := below_drewN' hb nq
        generalize wr.drewN nq = wq at *
        go_wp2_with fail
        go_roundw
        case rel => exact ⟨i + 1, zs, .inr hlt, by omega, by omega, by go_num, .inr ⟨hlt, by rw [HGE.out]; exact HN.out⟩, hown, hb⟩
        case measure => simp [intOf]; omega
      · have hce' : (c == h) = false := by rw [beq_eq_false_iff_ne]; exact hce
        have hlt2 : c < h := by omega
        cases ht : op pa pb with
        | false =>
          have HTK := Lib.hid (fun W => show Calls Try.prog 44 #[.int .i64 K, .bool pa, .bool pb] W fun e w' => e = .returned (.bool false) ∧ W = w' from ht ▸ TK.out pa pb W)
          have HN := Lib.hid (show Bd (tkS op xs ys) zs h from HB.out.skip (by omega) fun m h1 h2 => by rw [HT.out m h1 h2, HR.out]; exact ht)
          clear hce HB ht
          go_wp2_with fail
          go_quiet ((go_at_call 44; exact quiet_left (HTK.out _)))
          replace hown := own_drewN hown nq
          replace hb := below_drewN' hb nq
          generalize wr.drewN nq = wq at *
          go_wp2_with fail
          go_roundw
          case rel => exact ⟨i + 1, zs, .inr hlt, by omega, by omega, by go_num, .inr ⟨hlt, by rw [HGE.out]; exact HN.out⟩, hown, hb⟩
          case measure => simp [intOf]; omega
        | true =>
          have HTK := Lib.hid (fun W => show Calls Try.prog 44 #[.int .i64 K, .bool pa, .bool pb] W fun e w' => e = .returned (.bool true) ∧ W = w' from ht ▸ TK.out pa pb W)
          have HA := Lib.hid (show ∀ m, c ≤ m → m < h → tkS op xs ys m = true from fun m h1 h2 => by rw [HT.out m h1 h2, HR.out]; exact ht)
          clear hce ht HT HR
          go_wp2_with fail
          go_quiet ((go_at_call 44; exact quiet_left (HTK.out _)))
          replace hown := own_drewN hown nq
          replace hb := below_drewN' hb nq
          generalize wr.drewN nq = wq at *
          clear x0 x1
          have ⟨x0, x1⟩ := HXC.out _ hb
          have hsq := hb.size
          rcases List.eq_nil_or_concat zs with rfl | ⟨o, s, rfl⟩
          · have HN := Lib.hid (show Bd (tkS op xs ys) [(c, h)] h by
              have hl0 : lastU (-1) ([] : List Spn) ≠ c := by have := HB.out.at_; show (-1 : Int) ≠ c; omega
              exact HB.out.push hl0 hlt2 hh HA.out)
            obtain ⟨OA, OC, rfl, -⟩ := own_form hown
            replace hown : wq.ownsRow w3.heap.size 39 2 (.slice OA 0 OC) 0 (flatV []) := hown
            clear HB HA
            go_wp2_with fail
            go_quiet (fail)
            replace hown := own_drewN hown nq
            replace hb := below_drewN' hb nq
            generalize wq.drewN nq = wq at *
            clear x0 x1
            have ⟨x0, x1⟩ := HXC.out _ hb
            have hsq := hb.size
            go_wp2_with fail
            have hi1 : i < X.length := by omega
            have hi2 : (i : Int) < X.length := by omega
            have hi3 : (i : Int) + 1 < X.length := by omega
            have hi4 : (0 : Int) ≤ (i : Int) + 1 := by omega
            have hi5 := wrap_one (i := i) (by omega)
            have hi6 : ((i : Int) + 1).toNat = i + 1 := by omega
            have hfar := far_nil hown hbX
            go_region_held3 (fun W' => W'.cell? ⟨bX, oX + i, none⟩ = some (.int .i64 c) ∧ W'.cell? ⟨bX, oX + (i + 1), none⟩ = some (.int .i64 h))
              (first
                | go_keep
                | exact ⟨x0, x1⟩
                | (refine ⟨?_, ?_⟩
                   · exact cell_far2 hgrow hfar x0
                   · exact cell_far2 hgrow hfar x1))
              ((refine step_append_lies _ (by rfl) _ _ _ (by rfl) w3.heap.size 39 i0 _ 2 16 Try.underlying22 hi0 hz0 hz1 hz2 rfl (by omega) (.slice OA 0 OC) (0) (flatV []) (by rfl) ((hown.alloc _).drew)
                  ⟨wq.heap.size, 0, none⟩ 1 1 [.int .i64 c, .int .i64 h] (by rfl) (by rfl) (World.news_of_block (cs := #[.int .i64 c, .int .i64 h]) (t := 39) (fr := (0, 0)) (heap_alloc_new wq _)) (by simp [Value.oneCell'])
                  (by omega) (by unfold maxLen; omega) (by omega) (by simp; omega) (wq.heap.size + 1) (by simp) ?_; intro gg cap w5 hown1 hgrow hat hlt5))
            have hb1 := below_app hb hsq hown (Nat.le_refl _) (undrew hgrow)
            clear hgrow hat hlt5
            go_wp2_with fail
            rw [flat_snoc] at hown1
            go_roundw
            case rel => exact ⟨i + 1, [(c, h)], .inr hlt, by simp, by omega, by go_num, .inr ⟨hlt, by rw [HGE.out]; exact HN.out⟩, hown1, hb1⟩
            case measure => simp [intOf]; omega
          · rw [List.concat_eq_append] at *
            obtain ⟨f, u⟩ := s
            have hzi' : o.length + 1 ≤ i := by simpa using hzi
            rw [show (o ++ [(f, u)]).length = o.length + 1 by simp] at hown
            obtain ⟨g, cap, rfl, hg, hcu, hfu, -⟩ := own_last hown
            by_cases huc : u = c
            · have huc' : (u == c) = true := by rw [beq_iff_eq]; exact huc
              have HN := Lib.hid (show Bd (tkS op xs ys) (o ++ [(f, h)]) h by
                subst huc
                exact HB.out.grow hlt2 hh HA.out)
              clear huc HB HA
              go_wp2_with fail
              go_quiet (fail)
              replace hown := own_drewN hown nq
              replace hb := below_drewN' hb nq
              generalize wq.drewN nq = wq at *
              clear x0 x1 hcu hfu
              have ⟨x0, x1⟩ := HXC.out _ hb
              obtain ⟨g', cap', he, hg', hcu, hfu, hst⟩ := own_last hown
              have hgg : g = g' := by injection he with e1; injection e1 with e1; injection e1
              subst hgg
              have HST := Lib.hid (hst h)
              clear he hst hg'
              go_wp2
              go_roundw
              case rel => exact ⟨i + 1, o ++ [(f, h)], .inr hlt, by simp; omega, by omega, by go_num, .inr ⟨hlt, by rw [HGE.out]; exact HN.out⟩, by simpa using HST.out, hb.setCell hg _⟩
              case measure => simp [intOf]; omega
            · have huc' : (u == c) = false := by rw [beq_eq_false_iff_ne]; exact huc
              have HN := Lib.hid (show Bd (tkS op xs ys) ((o ++ [(f, u)]) ++ [(c, h)]) h from HB.out.push (by rw [lastU_snoc]; exact huc) hlt2 hh HA.out)
              clear huc HB HA
              go_wp2_with fail
              go_quiet (fail)
              replace hown := own_drewN hown nq
              replace hb := below_drewN' hb nq
              generalize wq.drewN nq = wq at *
              clear x0 x1
              have ⟨x0, x1⟩ := HXC.out _ hb
              have hsq := hb.size
              go_wp2_with fail
              have hi1 : i < X.length := by omega
              have hi2 : (i : Int) < X.length := by omega
              have hi3 : (i : Int) + 1 < X.length := by omega
              have hi4 : (0 : Int) ≤ (i : Int) + 1 := by omega
              have hi5 := wrap_one (i := i) (by omega)
              have hi6 : ((i : Int) + 1).toNat = i + 1 := by omega
              have hfar := far_g (m := o.length + 1) (n := cap) hg hbX
              go_region_held3 (fun W' => W'.cell? ⟨bX, oX + i, none⟩ = some (.int .i64 c) ∧ W'.cell? ⟨bX, oX + (i + 1), none⟩ = some (.int .i64 h))
                (first
                  | go_keep
                  | exact ⟨x0, x1⟩
                  | (refine ⟨?_, ?_⟩
                     · exact cell_far2 hgrow hfar x0
                     · exact cell_far2 hgrow hfar x1))
                ((refine step_append_lies _ (by rfl) _ _ _ (by rfl) w3.heap.size 39 i0 _ 2 16 Try.underlying22 hi0 hz0 hz1 hz2 rfl (by omega) (.slice (some ⟨g, 0, none⟩) (o.length + 1) cap) (o.length + 1) (flatV (o ++ [(f, u)])) (by rfl) ((hown.alloc _).drew)
                    ⟨wq.heap.size, 0, none⟩ 1 1 [.int .i64 c, .int .i64 h] (by rfl) (by rfl) (World.news_of_block (cs := #[.int .i64 c, .int .i64 h]) (t := 39) (fr := (0, 0)) (heap_alloc_new wq _)) (by simp [Value.oneCell'])
                    (by omega) (by unfold maxLen; omega) (by omega) (by simp; omega) (wq.heap.size + 1) (by simp) ?_; intro gg cap w5 hown1 hgrow hat hlt5))
              have hb1 := below_app hb hsq hown (Nat.le_refl _) (undrew hgrow)
              clear hgrow hat hlt5
              go_wp2_with fail
              rw [flat_snoc] at hown1
              go_roundw
              case rel => exact ⟨i + 1, (o ++ [(f, u)]) ++ [(c, h)], .inr hlt, by simp; omega, by omega, by go_num, .inr ⟨hlt, by rw [HGE.out]; exact HN.out⟩, by simpa using hown1, hb1⟩
              case measure => simp [intOf]; omega
    · have hz : zs = cmb op xs ys := by
        rcases HI.out with ⟨h1, h2⟩ | ⟨h1, h2⟩
        · rw [h2]; exact PC.out.nil h1
        · exact PC.out.fin zs i h1 hlt h2
      have HZ := Lib.hid hz
      clear hz HI
      obtain ⟨OA, OC, rfl, -, -, hs⟩ := own_slS hown
      go_wp2_with fail
      go_ret
      exact ⟨OA, OC, congrArg (fun z : List Spn => Ending.returned (.slice OA z.length OC)) HZ.out, by rw [← HZ.out]; exact hs, hB.trans (hb.mono hB.size)⟩
end Go.Proofs.Ytgdgpfpihpofdaa
