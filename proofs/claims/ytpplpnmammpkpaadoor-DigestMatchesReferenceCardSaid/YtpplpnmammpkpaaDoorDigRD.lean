/-
  The reference of package digest: Root, Path, Check.
-/
import Derived.Test.YtpplpnmammpkpaaDoorDigRC
import Derived.Test.YtpplpnmammpkpaaDoorDigI
namespace Go.Proofs.YtpplpnmammpkpaaDoor
open Go.RowKit Go.Sort
open Go.RowKit (Below)
set_option linter.unusedVariables false
set_option linter.unusedSimpArgs false

set_option maxRecDepth 100000 in
set_option maxHeartbeats 800000 in
theorem rroot_any (A : Option Addr) (C : Nat) (xs : List Int) (w : World) (hl : xs.length ≤ 9223372036854775807) (hu : ∀ x ∈ xs, U64 x) (h : Sk .u64 w A xs) :
    Calls Tryd.prog 16 #[.slice A xs.length C] w fun e w' => e = .returned (.tuple #[.int .u64 (rtV xs), .int .i64 (lvE xs.length)]) ∧ Below w.heap.size w w' := by
  have H := Lib.hid h
  have HU := Lib.hid hu
  clear h hu
  by_cases h0 : lvE xs.length = 0
  · have hL := lvE_ok.1 h0
    have HV := Lib.hid (show rootL (xs.map leafN) = rtV xs by unfold rtV; rw [if_pos h0])
    have HL := Lib.hid (show Lvl (xs.map leafN) from ⟨by simp; omega, by simp; omega, leaves_u xs⟩)
    have HE := Lib.hid h0
    have HR := Lib.hid (tree_any xs.length w (by omega))
    rw [h0] at HR
    clear h0
    go_enter Tryd.func16, Tryd.ntmps16
    go_wp2_with fail
    refine (HR.out).mono ?_
    rintro e w' ⟨rfl, rfl⟩
    go_wp2_with fail
    refine (rfirst_any A C xs _ (by omega) HU.out H.out).mono ?_
    rintro e w1 ⟨A1, C1, rfl, _, _, ⟨hs1, _⟩, hb1⟩
    generalize xs.map leafN = l0 at *
    go_wp2_with fail
    go_loopw [5] (fun v wr => ∃ A' C' l, v = .slice A' (List.length l) C' ∧ Hid (rootL l = rtV xs ∧ Lvl l ∧ Sk .u64 wr A' l) ∧ Below w.heap.size w wr) (fun v _ => lenV v)
    case atStart => exact ⟨A1, C1, l0, rfl, ⟨HV.out, HL.out, hs1⟩, hb1⟩
    case round =>
      obtain ⟨A', C', l, rfl, HI, hb⟩ := hrel
      have hfew := HI.out.2.1.few
      have hpos := HI.out.2.1.pos
      clear hs1 hb1
      by_cases h1 : 1 < l.length
      · go_wp2_with fail
        refine (rup_any A' C' l _ (by omega) HI.out.2.1.u HI.out.2.2).mono ?_
        rintro e w2 ⟨A2, C2, rfl, _, _, ⟨hs2, _⟩, hb2⟩
        have HN := Lib.hid (show rootL (up l) = rtV xs ∧ Lvl (up l) ∧ Sk .u64 w2 A2 (up l) from ⟨by rw [← rootL_up h1]; exact HI.out.1, HI.out.2.1.up, hs2⟩)
        have hB := on_below hb hb2
        have hm : (up l).length < l.length := by rw [up_len]; omega
        clear hs2 hb2 HI hb
        go_wp2_with fail
        go_roundw
        case rel => exact ⟨A2, C2, up l, rfl, HN, hB⟩
        case measure => simpa [lenV] using hm
      · obtain ⟨b, o, rfl, hc⟩ := HI.out.2.2 0 hpos
        rw [Nat.add_zero] at hc
        have HX := Lib.hid (show gd l 0 = rtV xs by rw [← rootL_one h1]; exact HI.out.1)
        have hp : 0 < l.length := hpos
        go_wp2_with fail
        go_ret2
        exact ⟨ret_uv HX.out HE.out.symm, hb⟩
  · have HV := Lib.hid (show (0 : Int) = rtV xs by unfold rtV; rw [if_neg h0])
    have h0' : ¬ lvE xs.length = 0 := h0
    have hne : (lvE xs.length == 0) = false := by rw [beq_eq_false_iff_ne]; exact h0
    have hne2 : (lvE xs.length != 0) = true := by simpa using h0
    have HR := Lib.hid (tree_any xs.length w (by omega))
    generalize lvE xs.length = E at *
    clear h0'
    go_enter Tryd.func16, Tryd.ntmps16
    go_wp2_with fail
    refine (HR.out).mono ?_
    rintro e w' ⟨rfl, rfl⟩
    go_wp2_with fail
    go_ret2
    exact ⟨ret_uv HV.out rfl, Below.refl _ _⟩

set_option maxRecDepth 100000 in
set_option maxHeartbeats 1000000 in
theorem rpath_ok (A : Option Addr) (C : Nat) (xs : List Int) (i : Nat) (w : World) (hpos : 0 < xs.length) (hfew : xs.length ≤ 1024) (hi : i < xs.length) (hu : ∀ x ∈ xs, U64 x) (h : Sk .u64 w A xs) :
    Calls Tryd.prog 18 #[.slice A xs.length C, .int .i64 i] w (Gk .u64 w (pathL (xs.map leafN) i) 0) := by
  obtain ⟨i0, hi0, hz0, hz1, hz2⟩ := info_parts u64_info
  have H := Lib.hid h
  have HU := Lib.hid hu
  have HL := Lib.hid (show Lvl (xs.map leafN) from ⟨by simp; omega, by simp; omega, leaves_u xs⟩)
  have HR := Lib.hid (tree_any xs.length w (by omega))
  rw [lvE_ok.2 ⟨hpos, hfew⟩] at HR
  have HP := Lib.hid (pathL_len 10 (xs.map leafN) i (by simp; omega))
  have HI0 := Lib.hid (show i < (xs.map leafN).length by simpa using hi)
  clear h hu
  have h1 : decide ((i : Int) < 0) = false := by simp
  have h2 : decide ((xs.length : Int) ≤ (i : Int)) = false := by simp; omega
  go_enter Tryd.func18, Tryd.ntmps18
  go_wp2_with fail
  refine (HR.out).mono ?_
  rintro e w' ⟨rfl, rfl⟩
  go_wp2_with fail
  refine (rfirst_any A C xs _ (by omega) HU.out H.out).mono ?_
  rintro e w1 ⟨A1, C1, rfl, _, _, ⟨hs1, hf1⟩, hb1⟩
  clear h1 h2 hi
  generalize hl0 : xs.map leafN = l0 at *
  clear hl0
  go_wp2_with fail
  go_loopw [1, 7, 8] (fun a v u wr => ∃ (j : Nat) (ps : List Int) (A' : Option Addr) (C' : Nat) (l : List Int), a = .int .i64 j ∧ u = .slice A' (List.length l) C' ∧ wr.ownsRow w.heap.size 25 1 v ps.length (ps.map (Value.int .u64)) ∧ Hid (ps ++ pathL l j = pathL l0 i ∧ Lvl l ∧ j < l.length ∧ Sk .u64 wr A' l ∧ ∀ b o, A' = some ⟨b, o, none⟩ → some b ≠ v.ownBlock) ∧ Below w.heap.size w wr) (fun _ _ u _ => lenV u)
  case atStart => exact ⟨i, [], A1, C1, l0, rfl, rfl, World.ownsRow_nil _ _ _ _, ⟨rfl, HL.out, HI0.out, hs1, fun b o _ => by simp [Value.ownBlock]⟩, hb1⟩
  case round =>
    obtain ⟨j, ps, A', C', l, rfl, rfl, hown, HI, hb⟩ := hrel
    have hfewl := HI.out.2.1.few
    have hj := HI.out.2.2.1
    clear hs1 hb1 hf1
    have hps : ps.length ≤ 10 := by have e := congrArg List.length HI.out.1; rw [List.length_append] at e; have := HP.out; omega
    by_cases h1 : 1 < l.length
    · have HPL := Lib.hid (pathL_up j h1)
      have hj2 : (j : Int) < (l.length : Int) := by omega
      by_cases ho : j % 2 = 1
      · have ho1 : ((j : Int) % 2 == 1) = true := by rw [beq_iff_eq]; omega
        have q1 : (1 : Int) ≤ (j : Int) := by omega
        have q2 : (j : Int) - 1 < (l.length : Int) := by omega
        have q3 : ((j : Int) - 1).toNat = j - 1 := by omega
        have HX := Lib.hid (show sib l j = [gd l (j - 1)] by unfold sib; rw [if_pos ho])
        have hsq := hb.size
        obtain ⟨b, o, rfl, hc⟩ := HI.out.2.2.2.1 (j - 1) (by omega)
        generalize gd l (j - 1) = x at *
        go_wp2_with (at_builtin; refine wpList_append_own _ rfl (.tmp 31) (.tmp 37) 24 rfl w.heap.size 25 i0 (.int .u64 0) 1 8 Tryd.underlying24 hi0 hz0 hz1 hz2 rfl (by decide) _ _ _ rfl (hown.alloc _) ⟨wr.heap.size, 0, none⟩ 1 1 [.int .u64 x] rfl rfl (new_k _ _ _) one_k (by unfold maxLen; omega) (by omega) (by simp; omega) ?_; intro v2 w2 hown2 hgr2 hz2'; clear hz2'; have hb2 := app_below (hb.alloc hsq _) (by simp; omega) (hown.alloc _) (Nat.le_refl _) hgr2; have hkeep := ((HI.out.2.2.2.1.below ((Below.refl _ _).alloc (Nat.le_refl _) _)).grown hgr2 HI.out.2.2.2.2))
        rw [snoc_k, show ps.length + 1 = (ps ++ [x]).length by simp] at hown2
        have HK := Lib.hid hkeep
        have HN := Lib.hid (show (ps ++ [x]) ++ pathL (up l) (j / 2) = pathL l0 i by rw [List.append_assoc, ← HX.out, ← HPL.out]; exact HI.out.1)
        clear hkeep hgr2 hown hb hc
        refine (rup_any _ C' l _ (by omega) HI.out.2.1.u HK.out).mono ?_
        rintro e w3 ⟨A3, C3, rfl, _, _, ⟨hs3, hf3⟩, hb3⟩
        have hown3 := own_below hown2 hb3
        have HM := Lib.hid (show (ps ++ [x]) ++ pathL (up l) (j / 2) = pathL l0 i ∧ Lvl (up l) ∧ j / 2 < (up l).length ∧ Sk .u64 w3 A3 (up l) ∧ ∀ b o, A3 = some ⟨b, o, none⟩ → some b ≠ v2.ownBlock from ⟨HN.out, HI.out.2.1.up, by rw [up_len]; omega, hs3, fun b o e he => by have h5 := hf3 _ e; have h6 := (hown2.lt b he.symm).2; simp at h5; omega⟩)
        have hB := on_below hb2 hb3
        have hm : (up l).length < l.length := by rw [up_len]; omega
        clear hs3 hf3 hb3 hown2 hb2 HI
        go_wp2_with fail
        go_roundw
        case rel => exact ⟨j / 2, ps ++ [x], A3, C3, up l, by go_num, rfl, hown3, HM, hB⟩
        case measure => simpa [lenV] using hm
      · have ho1 : ((j : Int) % 2 == 1) = false := by rw [beq_eq_false_iff_ne]; omega
        by_cases hx : j + 1 < l.length
        · have q1 : decide ((j : Int) + 1 < (l.length : Int)) = true := by rw [decide_eq_true_eq]; omega
          have q2 : (j : Int) + 1 < (l.length : Int) := by omega
          have q3 : ((j : Int) + 1).toNat = j + 1 := by omega
          have HX := Lib.hid (show sib l j = [gd l (j + 1)] by unfold sib; rw [if_neg ho, if_pos hx])
          have hsq := hb.size
          obtain ⟨b, o, rfl, hc⟩ := HI.out.2.2.2.1 (j + 1) (by omega)
          generalize gd l (j + 1) = x at *
          go_wp2_with (at_builtin; refine wpList_append_own _ rfl (.tmp 44) (.tmp 50) 24 rfl w.heap.size 25 i0 (.int .u64 0) 1 8 Tryd.underlying24 hi0 hz0 hz1 hz2 rfl (by decide) _ _ _ rfl (hown.alloc _) ⟨wr.heap.size, 0, none⟩ 1 1 [.int .u64 x] rfl rfl (new_k _ _ _) one_k (by unfold maxLen; omega) (by omega) (by simp; omega) ?_; intro v2 w2 hown2 hgr2 hz2'; clear hz2'; have hb2 := app_below (hb.alloc hsq _) (by simp; omega) (hown.alloc _) (Nat.le_refl _) hgr2; have hkeep := ((HI.out.2.2.2.1.below ((Below.refl _ _).alloc (Nat.le_refl _) _)).grown hgr2 HI.out.2.2.2.2))
          rw [snoc_k, show ps.length + 1 = (ps ++ [x]).length by simp] at hown2
          have HK := Lib.hid hkeep
          have HN := Lib.hid (show (ps ++ [x]) ++ pathL (up l) (j / 2) = pathL l0 i by rw [List.append_assoc, ← HX.out, ← HPL.out]; exact HI.out.1)
          clear hkeep hgr2 hown hb hc
          refine (rup_any _ C' l _ (by omega) HI.out.2.1.u HK.out).mono ?_
          rintro e w3 ⟨A3, C3, rfl, _, _, ⟨hs3, hf3⟩, hb3⟩
          have hown3 := own_below hown2 hb3
          have HM := Lib.hid (show (ps ++ [x]) ++ pathL (up l) (j / 2) = pathL l0 i ∧ Lvl (up l) ∧ j / 2 < (up l).length ∧ Sk .u64 w3 A3 (up l) ∧ ∀ b o, A3 = some ⟨b, o, none⟩ → some b ≠ v2.ownBlock from ⟨HN.out, HI.out.2.1.up, by rw [up_len]; omega, hs3, fun b o e he => by have h5 := hf3 _ e; have h6 := (hown2.lt b he.symm).2; simp at h5; omega⟩)
          have hB := on_below hb2 hb3
          have hm : (up l).length < l.length := by rw [up_len]; omega
          clear hs3 hf3 hb3 hown2 hb2 HI
          go_wp2_with fail
          go_roundw
          case rel => exact ⟨j / 2, ps ++ [x], A3, C3, up l, by go_num, rfl, hown3, HM, hB⟩
          case measure => simpa [lenV] using hm
        · have q1 : decide ((j : Int) + 1 < (l.length : Int)) = false := by rw [decide_eq_false_iff_not]; omega
          have HX := Lib.hid (show sib l j = [] by unfold sib; rw [if_neg ho, if_neg hx])
          have HN := Lib.hid (show ps ++ pathL (up l) (j / 2) = pathL l0 i by have := HI.out.1; rw [HPL.out, HX.out, List.nil_append] at this; exact this)
          go_wp2_with fail
          refine (rup_any _ C' l _ (by omega) HI.out.2.1.u HI.out.2.2.2.1).mono ?_
          rintro e w3 ⟨A3, C3, rfl, _, _, ⟨hs3, hf3⟩, hb3⟩
          have hown3 := own_below hown hb3
          have HM := Lib.hid (show ps ++ pathL (up l) (j / 2) = pathL l0 i ∧ Lvl (up l) ∧ j / 2 < (up l).length ∧ Sk .u64 w3 A3 (up l) ∧ ∀ b o, A3 = some ⟨b, o, none⟩ → some b ≠ u7.ownBlock from ⟨HN.out, HI.out.2.1.up, by rw [up_len]; omega, hs3, fun b o e he => by have h5 := hf3 _ e; have h6 := (hown.lt b he.symm).2; simp at h5; omega⟩)
          have hB := on_below hb hb3
          have hm : (up l).length < l.length := by rw [up_len]; omega
          clear hs3 hf3 hb3 hown hb HI
          go_wp2_with fail
          go_roundw
          case rel => exact ⟨j / 2, ps, A3, C3, up l, by go_num, rfl, hown3, HM, hB⟩
          case measure => simpa [lenV] using hm
    · have HN := Lib.hid (show ps = pathL l0 i by have := HI.out.1; rw [pathL_one j h1, List.append_nil] at this; exact this)
      obtain ⟨A5, C5, rfl, q1, q2, hs⟩ := own_sk hown
      have HS := Lib.hid hs
      have HQ := Lib.hid (And.intro q1 q2)
      clear hown q1 q2 hs
      go_wp2_with fail
      go_ret2
      rw [← HN.out]
      exact ⟨A5, C5, rfl, HQ.out.1, HQ.out.2, HS.out, hb⟩


set_option maxRecDepth 100000 in
theorem rpath_any (A : Option Addr) (C : Nat) (xs : List Int) (i : Int) (w : World) (hl : xs.length ≤ 9223372036854775807) (hu : ∀ x ∈ xs, U64 x) (h : Sk .u64 w A xs) :
    Calls Tryd.prog 18 #[.slice A xs.length C, .int .i64 i] w (Gk .u64 w (ptV xs i) (ptE xs.length i)) := by
  by_cases hE : ptE xs.length i = 0
  · obtain ⟨h1, h2, h3, h4⟩ := ptE_ok.1 hE
    unfold ptV
    rw [hE, if_pos rfl]
    obtain ⟨j, rfl⟩ := Int.eq_ofNat_of_zero_le h3
    exact rpath_ok A C xs j w h1 h2 (by omega) hu h
  · have HV := Lib.hid (show [] = ptV xs i by unfold ptV; rw [if_neg hE])
    have HR := Lib.hid (tree_any xs.length w (by omega))
    by_cases h0 : lvE xs.length = 0
    · have HE := Lib.hid (show (1 : Int) = ptE xs.length i by unfold ptE at hE ⊢; rw [if_pos h0] at hE ⊢; split <;> simp_all)
      have hx : i < 0 ∨ (xs.length : Int) ≤ i := by
        have := lvE_ok.1 h0
        apply Classical.byContradiction
        intro hn
        exact hE (ptE_ok.2 ⟨this.1, this.2, by omega, by omega⟩)
      rw [h0] at HR
      clear hE h0 hu h
      by_cases hneg : i < 0
      · clear hx
        go_enter Tryd.func18, Tryd.ntmps18
        go_wp2_with fail
        refine (HR.out).mono ?_
        rintro e w' ⟨rfl, rfl⟩
        go_wp2_with fail
        go_ret2
        exact ret_gk HV.out HE.out (Below.refl _ _)
      · have hneg' : decide (i < 0) = false := by simpa using hneg
        have hx' : (xs.length : Int) ≤ i := by omega
        clear hx hneg
        go_enter Tryd.func18, Tryd.ntmps18
        go_wp2_with fail
        refine (HR.out).mono ?_
        rintro e w' ⟨rfl, rfl⟩
        go_wp2_with fail
        go_ret2
        exact ret_gk HV.out HE.out (Below.refl _ _)
    · have HE := Lib.hid (show lvE xs.length = ptE xs.length i by unfold ptE; rw [if_neg h0])
      have hne : (lvE xs.length == 0) = false := by rw [beq_eq_false_iff_ne]; exact h0
      have hne2 : (lvE xs.length != 0) = true := by simpa using h0
      generalize lvE xs.length = E at *
      clear h0 hE hu h
      go_enter Tryd.func18, Tryd.ntmps18
      go_wp2_with fail
      refine (HR.out).mono ?_
      rintro e w' ⟨rfl, rfl⟩
      go_wp2_with fail
      go_ret2
      exact ret_gk HV.out HE.out (Below.refl _ _)

end Go.Proofs.YtpplpnmammpkpaaDoor
