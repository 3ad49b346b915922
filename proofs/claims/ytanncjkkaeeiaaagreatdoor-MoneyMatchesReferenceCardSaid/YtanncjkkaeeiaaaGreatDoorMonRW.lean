/-
  The reference of package money: number and Parse.
-/
import Derived.Test.YtanncjkkaeeiaaaGreatDoorMonRV
import Derived.Test.YtanncjkkaeeiaaaGreatDoorMonRP
namespace Go.Proofs.YtanncjkkaeeiaaaGreatDoor
open Go.RowKit Go.Sort
open Go.RowKit (Below)
set_option linter.unusedVariables false

set_option maxRecDepth 100000 in
set_option maxHeartbeats 800000 in
theorem number_short_neg (s : ByteArray) (w : World) (hl : s.size ≤ 200) (h0 : 0 < s.size) (hs0 : (s[0].toNat : Int) = 45) (T : ByteArray) (hT : s.extract 1 s.size = T) (X E : Int) (hX : X = 0) (hE : E = 8) (h1 : T.size < 4) :
    Calls Tryz.prog 35 #[.string s] w fun e w' => e = .returned (.tuple #[.int .i64 X, .int .i64 E]) ∧ w = w' := by
  have HT := Lib.hid hT
  have hz : T.size ≤ 200 := by rw [← hT, ByteArray.size_extract]; omega
  clear hT
  go_enter Tryz.func35, Tryz.ntmps35
  go_upto_region 6 with fail
  rw [HT.out]
  have h1 : (T.size : Int) < 4 := by omega
  go_wp2
  go_ret2
  exact ⟨by first | rfl | exact ret_two hX.symm hE.symm, rfl⟩

set_option maxRecDepth 100000 in
set_option maxHeartbeats 800000 in
theorem number_nopt_neg (s : ByteArray) (w : World) (hl : s.size ≤ 200) (h0 : 0 < s.size) (hs0 : (s[0].toNat : Int) = 45) (T : ByteArray) (hT : s.extract 1 s.size = T) (X E : Int) (hX : X = 0) (hE : E = 8) (h1 : 4 ≤ T.size) (h2 : (((T[T.size - 3]'(by omega)).toNat : Int) != 46) = true) :
    Calls Tryz.prog 35 #[.string s] w fun e w' => e = .returned (.tuple #[.int .i64 X, .int .i64 E]) ∧ w = w' := by
  have HT := Lib.hid hT
  have hz : T.size ≤ 200 := by rw [← hT, ByteArray.size_extract]; omega
  clear hT
  go_enter Tryz.func35, Tryz.ntmps35
  go_upto_region 6 with fail
  rw [HT.out]
  go_wp2
  go_ret2
  exact ⟨by first | rfl | exact ret_two hX.symm hE.symm, rfl⟩

set_option maxRecDepth 100000 in
set_option maxHeartbeats 800000 in
theorem number_lead_neg (s : ByteArray) (w : World) (hl : s.size ≤ 200) (h0 : 0 < s.size) (hs0 : (s[0].toNat : Int) = 45) (T : ByteArray) (hT : s.extract 1 s.size = T) (X E : Int) (hX : X = 0) (hE : E = 8) (h1 : 5 ≤ T.size) (h2 : ((T[T.size - 3]'(by omega)).toNat : Int) = 46) (h3 : ((T[0]'(by omega)).toNat : Int) = 48) :
    Calls Tryz.prog 35 #[.string s] w fun e w' => e = .returned (.tuple #[.int .i64 X, .int .i64 E]) ∧ w = w' := by
  have HT := Lib.hid hT
  have hz : T.size ≤ 200 := by rw [← hT, ByteArray.size_extract]; omega
  clear hT
  go_enter Tryz.func35, Tryz.ntmps35
  go_upto_region 6 with fail
  rw [HT.out]
  go_wp2
  go_ret2
  exact ⟨by first | rfl | exact ret_two hX.symm hE.symm, rfl⟩

set_option maxRecDepth 100000 in
set_option maxHeartbeats 800000 in
theorem number_short_pos (s : ByteArray) (w : World) (hl : s.size ≤ 200) (h0 : 0 < s.size) (hs0 : ((s[0].toNat : Int) == 45) = false) (X E : Int) (hX : X = 0) (hE : E = 8) (h1 : s.size < 4) :
    Calls Tryz.prog 35 #[.string s] w fun e w' => e = .returned (.tuple #[.int .i64 X, .int .i64 E]) ∧ w = w' := by
  go_enter Tryz.func35, Tryz.ntmps35
  go_upto_region 6 with fail
  have h1 : (s.size : Int) < 4 := by omega
  go_wp2
  go_ret2
  exact ⟨by first | rfl | exact ret_two hX.symm hE.symm, rfl⟩

set_option maxRecDepth 100000 in
set_option maxHeartbeats 800000 in
theorem number_nopt_pos (s : ByteArray) (w : World) (hl : s.size ≤ 200) (h0 : 0 < s.size) (hs0 : ((s[0].toNat : Int) == 45) = false) (X E : Int) (hX : X = 0) (hE : E = 8) (h1 : 4 ≤ s.size) (h2 : (((s[s.size - 3]'(by omega)).toNat : Int) != 46) = true) :
    Calls Tryz.prog 35 #[.string s] w fun e w' => e = .returned (.tuple #[.int .i64 X, .int .i64 E]) ∧ w = w' := by
  go_enter Tryz.func35, Tryz.ntmps35
  go_upto_region 6 with fail
  go_wp2
  go_ret2
  exact ⟨by first | rfl | exact ret_two hX.symm hE.symm, rfl⟩

set_option maxRecDepth 100000 in
set_option maxHeartbeats 800000 in
theorem number_lead_pos (s : ByteArray) (w : World) (hl : s.size ≤ 200) (h0 : 0 < s.size) (hs0 : ((s[0].toNat : Int) == 45) = false) (X E : Int) (hX : X = 0) (hE : E = 8) (h1 : 5 ≤ s.size) (h2 : ((s[s.size - 3]'(by omega)).toNat : Int) = 46) (h3 : ((s[0]'(by omega)).toNat : Int) = 48) :
    Calls Tryz.prog 35 #[.string s] w fun e w' => e = .returned (.tuple #[.int .i64 X, .int .i64 E]) ∧ w = w' := by
  go_enter Tryz.func35, Tryz.ntmps35
  go_upto_region 6 with fail
  go_wp2
  go_ret2
  exact ⟨by first | rfl | exact ret_two hX.symm hE.symm, rfl⟩

set_option maxHeartbeats 400000 in
theorem number_emp (s : ByteArray) (w : World) (X E : Int) (hX : X = 0) (hE : E = 8) (h0 : s.size < 1) :
    Calls Tryz.prog 35 #[.string s] w fun e w' => e = .returned (.tuple #[.int .i64 X, .int .i64 E]) ∧ w = w' := by
  have h1 : (s.size : Int) < 1 := by omega
  go_enter Tryz.func35, Tryz.ntmps35
  go_wp2
  go_ret2
  exact ⟨by first | rfl | exact ret_two hX.symm hE.symm, rfl⟩

set_option maxRecDepth 100000 in
set_option maxHeartbeats 800000 in
theorem number_mainA_neg (s : ByteArray) (w : World) (hl : s.size ≤ 200) (h0 : 0 < s.size) (hs0 : (s[0].toNat : Int) = 45) (T : ByteArray) (hT : s.extract 1 s.size = T) (X E : Int) (h1 : 4 ≤ T.size) (h2 : ((T[T.size - 3]'(by omega)).toNat : Int) = 46) (h3 : (((T[0]'(by omega)).toNat : Int) == 48) = false) (hbad : digl (body T.data.toList (T.size - 3)) = false → X = 0 ∧ E = 8) (hgood : digl (body T.data.toList (T.size - 3)) = true → (capv (body T.data.toList (T.size - 3)) = 0 → X = 0 ∧ E = 8) ∧ (1000000000 < capv (body T.data.toList (T.size - 3)) → X = 0 ∧ E = 3) ∧ (1 ≤ capv (body T.data.toList (T.size - 3)) → capv (body T.data.toList (T.size - 3)) ≤ 1000000000 → X = -(capv (body T.data.toList (T.size - 3)) : Int) ∧ E = 0)) :
    Calls Tryz.prog 35 #[.string s] w fun e w' => e = .returned (.tuple #[.int .i64 X, .int .i64 E]) ∧ w = w' := by
  have HT := Lib.hid hT
  have hz : T.size ≤ 200 := by rw [← hT, ByteArray.size_extract]; omega
  clear hT
  go_enter Tryz.func35, Tryz.ntmps35
  go_upto_region 6 with fail
  rw [HT.out]
  have HB := Lib.hid hbad; have HG := Lib.hid hgood
  clear hbad hgood
  go_wp2
  go_loop [7, 8] (fun n i => ∃ k : Nat, k ≤ T.size ∧ i = .int .i64 k ∧ n = .int .i64 (capv (dgs T.data.toList (T.size - 3) k) : Nat) ∧ Hid (digl (dgs T.data.toList (T.size - 3) k) = true)) (fun _ i => T.size - (intOf i).toNat)
  case atStart => exact ⟨0, Nat.zero_le _, rfl, by rw [dgs_zero]; rfl, by rw [dgs_zero]; rfl⟩
  case round =>
    obtain ⟨k, hk, rfl, rfl, HD⟩ := hrel
    by_cases hlt : k < T.size
    · by_cases hkp : k = T.size - 3
      · have hk1 : (k : Int) = T.size - 3 := by omega
        have HE := Lib.hid (show dgs T.data.toList (T.size - 3) (k + 1) = dgs T.data.toList (T.size - 3) k by rw [hkp]; exact dgs_skip _ _)
        clear hkp
        go_wp2
        go_round
        case rel => exact ⟨k + 1, by omega, by go_num, by rw [HE.out], by rw [HE.out]; exact HD.out⟩
        case measure => simp [intOf]; omega
      · have hk1 : ((k : Int) == T.size - 3) = false := by rw [beq_eq_false_iff_ne]; omega
        have hld : T.data.toList.length = T.size := by simp
        have hget : T.data.toList[k]'(by rw [hld]; exact hlt) = T[k] := by rw [Array.getElem_toList]; rfl
        have hmem : T[k] ∈ body T.data.toList (T.size - 3) := by rw [← hget]; exact body_mem _ hkp
        have hnx : dgs T.data.toList (T.size - 3) (k + 1) = dgs T.data.toList (T.size - 3) k ++ [T[k]] := by rw [← hget]; exact dgs_next _ hkp
        have HM := Lib.hid hmem
        have HN := Lib.hid hnx
        have HCB := Lib.hid (capv_bd _ HD.out)
        clear hmem hnx hget hld hkp
        by_cases c1 : (T[k].toNat : Int) < 48
        · have ⟨hX, hE⟩ := HB.out (dig_no HM.out (.inl c1)).symm
          go_wp2
          go_ret2
          exact ⟨by first | rfl | exact ret_two hX.symm hE.symm, rfl⟩
        · have c1' : (48 : Int) ≤ T[k].toNat := by omega
          by_cases c2 : (57 : Int) < T[k].toNat
          · have ⟨hX, hE⟩ := HB.out (dig_no HM.out (.inr c2)).symm
            go_wp2
            go_ret2
            exact ⟨by first | rfl | exact ret_two hX.symm hE.symm, rfl⟩
          · have c2' : (T[k].toNat : Int) ≤ 57 := by omega
            have HD1 := Lib.hid (show digl (dgs T.data.toList (T.size - 3) (k + 1)) = true by rw [HN.out, digl_app, HD.out]; simp [digl, isd]; omega)
            have HC1 := Lib.hid (show capv (dgs T.data.toList (T.size - 3) (k + 1)) = if capv (dgs T.data.toList (T.size - 3) k) ≤ 1000000000 then capv (dgs T.data.toList (T.size - 3) k) * 10 + (T[k].toNat - 48) else capv (dgs T.data.toList (T.size - 3) k) by rw [HN.out, capv_snoc])
            have hcb := HCB.out
            clear HCB
            generalize capv (dgs T.data.toList (T.size - 3) k) = v at *
            by_cases hv : v ≤ 1000000000
            · have hv' : (v : Int) ≤ 1000000000 := by omega
              have HV := Lib.hid (show capv (dgs T.data.toList (T.size - 3) (k + 1)) = v * 10 + (T[k].toNat - 48) by rw [HC1.out, if_pos hv])
              clear HC1
              go_wp2
              go_round
              case rel => exact ⟨k + 1, by omega, by go_num, by rw [HV.out]; exact ret_val (by omega), HD1.out⟩
              case measure => simp [intOf]; omega
            · have hv' : ¬ (v : Int) ≤ 1000000000 := by omega
              have HV := Lib.hid (show capv (dgs T.data.toList (T.size - 3) (k + 1)) = v by rw [HC1.out, if_neg hv])
              clear HC1
              go_wp2
              go_round
              case rel => exact ⟨k + 1, by omega, by go_num, by rw [HV.out], HD1.out⟩
              case measure => simp [intOf]; omega
    · have he : dgs T.data.toList (T.size - 3) k = body T.data.toList (T.size - 3) := dgs_all (by rw [len_data]; omega) (by rw [len_data]; omega)
      have hg := HG.out (by rw [← he]; exact HD.out)
      have hcb := capv_bd _ HD.out
      rw [he] at hcb ⊢
      obtain ⟨g1, g2, g3⟩ := hg
      generalize capv (body T.data.toList (T.size - 3)) = v at *
      clear he HD HB HG
      by_cases hv0 : v = 0
      · have ⟨hX, hE⟩ := g1 hv0
        have hv0' : ((v : Nat) : Int) = 0 := by omega
        go_wp2
        go_ret2
        exact ⟨by first | rfl | exact ret_two hX.symm hE.symm, rfl⟩
      · have hv0' : (((v : Nat) : Int) == 0) = false := by rw [beq_eq_false_iff_ne]; omega
        by_cases hv : 1000000000 < v
        · have ⟨hX, hE⟩ := g2 hv
          have hv' : (1000000000 : Int) < v := by omega
          go_wp2
          go_ret2
          exact ⟨by first | rfl | exact ret_two hX.symm hE.symm, rfl⟩
        · have ⟨hX, hE⟩ := g3 (by omega) (by omega)
          have hv' : ((v : Nat) : Int) ≤ 1000000000 := by omega
          go_wp2
          go_ret2
          exact ⟨by first | rfl | exact ret_two (by first | rfl | omega) (by first | rfl | omega), rfl⟩

set_option maxRecDepth 100000 in
set_option maxHeartbeats 800000 in
theorem number_mainB_neg (s : ByteArray) (w : World) (hl : s.size ≤ 200) (h0 : 0 < s.size) (hs0 : (s[0].toNat : Int) = 45) (T : ByteArray) (hT : s.extract 1 s.size = T) (X E : Int) (h1 : 4 ≤ T.size) (h2 : ((T[T.size - 3]'(by omega)).toNat : Int) = 46) (h3 : ((T[0]'(by omega)).toNat : Int) = 48) (h4 : T.size ≤ 4) (hbad : digl (body T.data.toList (T.size - 3)) = false → X = 0 ∧ E = 8) (hgood : digl (body T.data.toList (T.size - 3)) = true → (capv (body T.data.toList (T.size - 3)) = 0 → X = 0 ∧ E = 8) ∧ (1000000000 < capv (body T.data.toList (T.size - 3)) → X = 0 ∧ E = 3) ∧ (1 ≤ capv (body T.data.toList (T.size - 3)) → capv (body T.data.toList (T.size - 3)) ≤ 1000000000 → X = -(capv (body T.data.toList (T.size - 3)) : Int) ∧ E = 0)) :
    Calls Tryz.prog 35 #[.string s] w fun e w' => e = .returned (.tuple #[.int .i64 X, .int .i64 E]) ∧ w = w' := by
  have HT := Lib.hid hT
  have hz : T.size ≤ 200 := by rw [← hT, ByteArray.size_extract]; omega
  clear hT
  go_enter Tryz.func35, Tryz.ntmps35
  go_upto_region 6 with fail
  rw [HT.out]
  have HB := Lib.hid hbad; have HG := Lib.hid hgood
  clear hbad hgood
  go_wp2
  go_loop [7, 8] (fun n i => ∃ k : Nat, k ≤ T.size ∧ i = .int .i64 k ∧ n = .int .i64 (capv (dgs T.data.toList (T.size - 3) k) : Nat) ∧ Hid (digl (dgs T.data.toList (T.size - 3) k) = true)) (fun _ i => T.size - (intOf i).toNat)
  case atStart => exact ⟨0, Nat.zero_le _, rfl, by rw [dgs_zero]; rfl, by rw [dgs_zero]; rfl⟩
  case round =>
    obtain ⟨k, hk, rfl, rfl, HD⟩ := hrel
    by_cases hlt : k < T.size
    · by_cases hkp : k = T.size - 3
      · have hk1 : (k : Int) = T.size - 3 := by omega
        have HE := Lib.hid (show dgs T.data.toList (T.size - 3) (k + 1) = dgs T.data.toList (T.size - 3) k by rw [hkp]; exact dgs_skip _ _)
        clear hkp
        go_wp2
        go_round
        case rel => exact ⟨k + 1, by omega, by go_num, by rw [HE.out], by rw [HE.out]; exact HD.out⟩
        case measure => simp [intOf]; omega
      · have hk1 : ((k : Int) == T.size - 3) = false := by rw [beq_eq_false_iff_ne]; omega
        have hld : T.data.toList.length = T.size := by simp
        have hget : T.data.toList[k]'(by rw [hld]; exact hlt) = T[k] := by rw [Array.getElem_toList]; rfl
        have hmem : T[k] ∈ body T.data.toList (T.size - 3) := by rw [← hget]; exact body_mem _ hkp
        have hnx : dgs T.data.toList (T.size - 3) (k + 1) = dgs T.data.toList (T.size - 3) k ++ [T[k]] := by rw [← hget]; exact dgs_next _ hkp
        have HM := Lib.hid hmem
        have HN := Lib.hid hnx
        have HCB := Lib.hid (capv_bd _ HD.out)
        clear hmem hnx hget hld hkp
        by_cases c1 : (T[k].toNat : Int) < 48
        · have ⟨hX, hE⟩ := HB.out (dig_no HM.out (.inl c1)).symm
          go_wp2
          go_ret2
          exact ⟨by first | rfl | exact ret_two hX.symm hE.symm, rfl⟩
        · have c1' : (48 : Int) ≤ T[k].toNat := by omega
          by_cases c2 : (57 : Int) < T[k].toNat
          · have ⟨hX, hE⟩ := HB.out (dig_no HM.out (.inr c2)).symm
            go_wp2
            go_ret2
            exact ⟨by first | rfl | exact ret_two hX.symm hE.symm, rfl⟩
          · have c2' : (T[k].toNat : Int) ≤ 57 := by omega
            have HD1 := Lib.hid (show digl (dgs T.data.toList (T.size - 3) (k + 1)) = true by rw [HN.out, digl_app, HD.out]; simp [digl, isd]; omega)
            have HC1 := Lib.hid (show capv (dgs T.data.toList (T.size - 3) (k + 1)) = if capv (dgs T.data.toList (T.size - 3) k) ≤ 1000000000 then capv (dgs T.data.toList (T.size - 3) k) * 10 + (T[k].toNat - 48) else capv (dgs T.data.toList (T.size - 3) k) by rw [HN.out, capv_snoc])
            have hcb := HCB.out
            clear HCB
            generalize capv (dgs T.data.toList (T.size - 3) k) = v at *
            by_cases hv : v ≤ 1000000000
            · have hv' : (v : Int) ≤ 1000000000 := by omega
              have HV := Lib.hid (show capv (dgs T.data.toList (T.size - 3) (k + 1)) = v * 10 + (T[k].toNat - 48) by rw [HC1.out, if_pos hv])
              clear HC1
              go_wp2
              go_round
              case rel => exact ⟨k + 1, by omega, by go_num, by rw [HV.out]; exact ret_val (by omega), HD1.out⟩
              case measure => simp [intOf]; omega
            · have hv' : ¬ (v : Int) ≤ 1000000000 := by omega
              have HV := Lib.hid (show capv (dgs T.data.toList (T.size - 3) (k + 1)) = v by rw [HC1.out, if_neg hv])
              clear HC1
              go_wp2
              go_round
              case rel => exact ⟨k + 1, by omega, by go_num, by rw [HV.out], HD1.out⟩
              case measure => simp [intOf]; omega
    · have he : dgs T.data.toList (T.size - 3) k = body T.data.toList (T.size - 3) := dgs_all (by rw [len_data]; omega) (by rw [len_data]; omega)
      have hg := HG.out (by rw [← he]; exact HD.out)
      have hcb := capv_bd _ HD.out
      rw [he] at hcb ⊢
      obtain ⟨g1, g2, g3⟩ := hg
      generalize capv (body T.data.toList (T.size - 3)) = v at *
      clear he HD HB HG
      by_cases hv0 : v = 0
      · have ⟨hX, hE⟩ := g1 hv0
        have hv0' : ((v : Nat) : Int) = 0 := by omega
        go_wp2
        go_ret2
        exact ⟨by first | rfl | exact ret_two hX.symm hE.symm, rfl⟩
      · have hv0' : (((v : Nat) : Int) == 0) = false := by rw [beq_eq_false_iff_ne]; omega
        by_cases hv : 1000000000 < v
        · have ⟨hX, hE⟩ := g2 hv
          have hv' : (1000000000 : Int) < v := by omega
          go_wp2
          go_ret2
          exact ⟨by first | rfl | exact ret_two hX.symm hE.symm, rfl⟩
        · have ⟨hX, hE⟩ := g3 (by omega) (by omega)
          have hv' : ((v : Nat) : Int) ≤ 1000000000 := by omega
          go_wp2
          go_ret2
          exact ⟨by first | rfl | exact ret_two (by first | rfl | omega) (by first | rfl | omega), rfl⟩

set_option maxRecDepth 100000 in
set_option maxHeartbeats 800000 in
theorem number_mainA_pos (s : ByteArray) (w : World) (hl : s.size ≤ 200) (h0 : 0 < s.size) (hs0 : ((s[0].toNat : Int) == 45) = false) (X E : Int) (h1 : 4 ≤ s.size) (h2 : ((s[s.size - 3]'(by omega)).toNat : Int) = 46) (h3 : (((s[0]'(by omega)).toNat : Int) == 48) = false) (hbad : digl (body s.data.toList (s.size - 3)) = false → X = 0 ∧ E = 8) (hgood : digl (body s.data.toList (s.size - 3)) = true → (1000000000 < capv (body s.data.toList (s.size - 3)) → X = 0 ∧ E = 3) ∧ (capv (body s.data.toList (s.size - 3)) ≤ 1000000000 → X = (capv (body s.data.toList (s.size - 3)) : Int) ∧ E = 0)) :
    Calls Tryz.prog 35 #[.string s] w fun e w' => e = .returned (.tuple #[.int .i64 X, .int .i64 E]) ∧ w = w' := by
  go_enter Tryz.func35, Tryz.ntmps35
  go_upto_region 6 with fail
  have HB := Lib.hid hbad; have HG := Lib.hid hgood
  clear hbad hgood
  go_wp2
  go_loop [7, 8] (fun n i => ∃ k : Nat, k ≤ s.size ∧ i = .int .i64 k ∧ n = .int .i64 (capv (dgs s.data.toList (s.size - 3) k) : Nat) ∧ Hid (digl (dgs s.data.toList (s.size - 3) k) = true)) (fun _ i => s.size - (intOf i).toNat)
  case atStart => exact ⟨0, Nat.zero_le _, rfl, by rw [dgs_zero]; rfl, by rw [dgs_zero]; rfl⟩
  case round =>
    obtain ⟨k, hk, rfl, rfl, HD⟩ := hrel
    by_cases hlt : k < s.size
    · by_cases hkp : k = s.size - 3
      · have hk1 : (k : Int) = s.size - 3 := by omega
        have HE := Lib.hid (show dgs s.data.toList (s.size - 3) (k + 1) = dgs s.data.toList (s.size - 3) k by rw [hkp]; exact dgs_skip _ _)
        clear hkp
        go_wp2
        go_round
        case rel => exact ⟨k + 1, by omega, by go_num, by rw [HE.out], by rw [HE.out]; exact HD.out⟩
        case measure => simp [intOf]; omega
      · have hk1 : ((k : Int) == s.size - 3) = false := by rw [beq_eq_false_iff_ne]; omega
        have hld : s.data.toList.length = s.size := by simp
        have hget : s.data.toList[k]'(by rw [hld]; exact hlt) = s[k] := by rw [Array.getElem_toList]; rfl
        have hmem : s[k] ∈ body s.data.toList (s.size - 3) := by rw [← hget]; exact body_mem _ hkp
        have hnx : dgs s.data.toList (s.size - 3) (k + 1) = dgs s.data.toList (s.size - 3) k ++ [s[k]] := by rw [← hget]; exact dgs_next _ hkp
        have HM := Lib.hid hmem
        have HN := Lib.hid hnx
        have HCB := Lib.hid (capv_bd _ HD.out)
        clear hmem hnx hget hld hkp
        by_cases c1 : (s[k].toNat : Int) < 48
        · have ⟨hX, hE⟩ := HB.out (dig_no HM.out (.inl c1)).symm
          go_wp2
          go_ret2
          exact ⟨by first | rfl | exact ret_two hX.symm hE.symm, rfl⟩
        · have c1' : (48 : Int) ≤ s[k].toNat := by omega
          by_cases c2 : (57 : Int) < s[k].toNat
          · have ⟨hX, hE⟩ := HB.out (dig_no HM.out (.inr c2)).symm
            go_wp2
            go_ret2
            exact ⟨by first | rfl | exact ret_two hX.symm hE.symm, rfl⟩
          · have c2' : (s[k].toNat : Int) ≤ 57 := by omega
            have HD1 := Lib.hid (show digl (dgs s.data.toList (s.size - 3) (k + 1)) = true by rw [HN.out, digl_app, HD.out]; simp [digl, isd]; omega)
            have HC1 := Lib.hid (show capv (dgs s.data.toList (s.size - 3) (k + 1)) = if capv (dgs s.data.toList (s.size - 3) k) ≤ 1000000000 then capv (dgs s.data.toList (s.size - 3) k) * 10 + (s[k].toNat - 48) else capv (dgs s.data.toList (s.size - 3) k) by rw [HN.out, capv_snoc])
            have hcb := HCB.out
            clear HCB
            generalize capv (dgs s.data.toList (s.size - 3) k) = v at *
            by_cases hv : v ≤ 1000000000
            · have hv' : (v : Int) ≤ 1000000000 := by omega
              have HV := Lib.hid (show capv (dgs s.data.toList (s.size - 3) (k + 1)) = v * 10 + (s[k].toNat - 48) by rw [HC1.out, if_pos hv])
              clear HC1
              go_wp2
              go_round
              case rel => exact ⟨k + 1, by omega, by go_num, by rw [HV.out]; exact ret_val (by omega), HD1.out⟩
              case measure => simp [intOf]; omega
            · have hv' : ¬ (v : Int) ≤ 1000000000 := by omega
              have HV := Lib.hid (show capv (dgs s.data.toList (s.size - 3) (k + 1)) = v by rw [HC1.out, if_neg hv])
              clear HC1
              go_wp2
              go_round
              case rel => exact ⟨k + 1, by omega, by go_num, by rw [HV.out], HD1.out⟩
              case measure => simp [intOf]; omega
    · have he : dgs s.data.toList (s.size - 3) k = body s.data.toList (s.size - 3) := dgs_all (by rw [len_data]; omega) (by rw [len_data]; omega)
      have hg := HG.out (by rw [← he]; exact HD.out)
      have hcb := capv_bd _ HD.out
      rw [he] at hcb ⊢
      obtain ⟨g1, g2⟩ := hg
      generalize capv (body s.data.toList (s.size - 3)) = v at *
      clear he HD HB HG
      by_cases hv : 1000000000 < v
      · have ⟨hX, hE⟩ := g1 hv
        have hv' : (1000000000 : Int) < v := by omega
        go_wp2
        go_ret2
        exact ⟨by first | rfl | exact ret_two hX.symm hE.symm, rfl⟩
      · have ⟨hX, hE⟩ := g2 (by omega)
        have hv' : ((v : Nat) : Int) ≤ 1000000000 := by omega
        go_wp2
        go_ret2
        exact ⟨by first | rfl | exact ret_two (by first | rfl | omega) (by first | rfl | omega), rfl⟩

set_option maxRecDepth 100000 in
set_option maxHeartbeats 800000 in
theorem number_mainB_pos (s : ByteArray) (w : World) (hl : s.size ≤ 200) (h0 : 0 < s.size) (hs0 : ((s[0].toNat : Int) == 45) = false) (X E : Int) (h1 : 4 ≤ s.size) (h2 : ((s[s.size - 3]'(by omega)).toNat : Int) = 46) (h3 : ((s[0]'(by omega)).toNat : Int) = 48) (h4 : s.size ≤ 4) (hbad : digl (body s.data.toList (s.size - 3)) = false → X = 0 ∧ E = 8) (hgood : digl (body s.data.toList (s.size - 3)) = true → (1000000000 < capv (body s.data.toList (s.size - 3)) → X = 0 ∧ E = 3) ∧ (capv (body s.data.toList (s.size - 3)) ≤ 1000000000 → X = (capv (body s.data.toList (s.size - 3)) : Int) ∧ E = 0)) :
    Calls Tryz.prog 35 #[.string s] w fun e w' => e = .returned (.tuple #[.int .i64 X, .int .i64 E]) ∧ w = w' := by
  go_enter Tryz.func35, Tryz.ntmps35
  go_upto_region 6 with fail
  have HB := Lib.hid hbad; have HG := Lib.hid hgood
  clear hbad hgood
  go_wp2
  go_loop [7, 8] (fun n i => ∃ k : Nat, k ≤ s.size ∧ i = .int .i64 k ∧ n = .int .i64 (capv (dgs s.data.toList (s.size - 3) k) : Nat) ∧ Hid (digl (dgs s.data.toList (s.size - 3) k) = true)) (fun _ i => s.size - (intOf i).toNat)
  case atStart => exact ⟨0, Nat.zero_le _, rfl, by rw [dgs_zero]; rfl, by rw [dgs_zero]; rfl⟩
  case round =>
    obtain ⟨k, hk, rfl, rfl, HD⟩ := hrel
    by_cases hlt : k < s.size
    · by_cases hkp : k = s.size - 3
      · have hk1 : (k : Int) = s.size - 3 := by omega
        have HE := Lib.hid (show dgs s.data.toList (s.size - 3) (k + 1) = dgs s.data.toList (s.size - 3) k by rw [hkp]; exact dgs_skip _ _)
        clear hkp
        go_wp2
        go_round
        case rel => exact ⟨k + 1, by omega, by go_num, by rw [HE.out], by rw [HE.out]; exact HD.out⟩
        case measure => simp [intOf]; omega
      · have hk1 : ((k : Int) == s.size - 3) = false := by rw [beq_eq_false_iff_ne]; omega
        have hld : s.data.toList.length = s.size := by simp
        have hget : s.data.toList[k]'(by rw [hld]; exact hlt) = s[k] := by rw [Array.getElem_toList]; rfl
        have hmem : s[k] ∈ body s.data.toList (s.size - 3) := by rw [← hget]; exact body_mem _ hkp
        have hnx : dgs s.data.toList (s.size - 3) (k + 1) = dgs s.data.toList (s.size - 3) k ++ [s[k]] := by rw [← hget]; exact dgs_next _ hkp
        have HM := Lib.hid hmem
        have HN := Lib.hid hnx
        have HCB := Lib.hid (capv_bd _ HD.out)
        clear hmem hnx hget hld hkp
        by_cases c1 : (s[k].toNat : Int) < 48
        · have ⟨hX, hE⟩ := HB.out (dig_no HM.out (.inl c1)).symm
          go_wp2
          go_ret2
          exact ⟨by first | rfl | exact ret_two hX.symm hE.symm, rfl⟩
        · have c1' : (48 : Int) ≤ s[k].toNat := by omega
          by_cases c2 : (57 : Int) < s[k].toNat
          · have ⟨hX, hE⟩ := HB.out (dig_no HM.out (.inr c2)).symm
            go_wp2
            go_ret2
            exact ⟨by first | rfl | exact ret_two hX.symm hE.symm, rfl⟩
          · have c2' : (s[k].toNat : Int) ≤ 57 := by omega
            have HD1 := Lib.hid (show digl (dgs s.data.toList (s.size - 3) (k + 1)) = true by rw [HN.out, digl_app, HD.out]; simp [digl, isd]; omega)
            have HC1 := Lib.hid (show capv (dgs s.data.toList (s.size - 3) (k + 1)) = if capv (dgs s.data.toList (s.size - 3) k) ≤ 1000000000 then capv (dgs s.data.toList (s.size - 3) k) * 10 + (s[k].toNat - 48) else capv (dgs s.data.toList (s.size - 3) k) by rw [HN.out, capv_snoc])
            have hcb := HCB.out
            clear HCB
            generalize capv (dgs s.data.toList (s.size - 3) k) = v at *
            by_cases hv : v ≤ 1000000000
            · have hv' : (v : Int) ≤ 1000000000 := by omega
              have HV := Lib.hid (show capv (dgs s.data.toList (s.size - 3) (k + 1)) = v * 10 + (s[k].toNat - 48) by rw [HC1.out, if_pos hv])
              clear HC1
              go_wp2
              go_round
              case rel => exact ⟨k + 1, by omega, by go_num, by rw [HV.out]; exact ret_val (by omega), HD1.out⟩
              case measure => simp [intOf]; omega
            · have hv' : ¬ (v : Int) ≤ 1000000000 := by omega
              have HV := Lib.hid (show capv (dgs s.data.toList (s.size - 3) (k + 1)) = v by rw [HC1.out, if_neg hv])
              clear HC1
              go_wp2
              go_round
              case rel => exact ⟨k + 1, by omega, by go_num, by rw [HV.out], HD1.out⟩
              case measure => simp [intOf]; omega
    · have he : dgs s.data.toList (s.size - 3) k = body s.data.toList (s.size - 3) := dgs_all (by rw [len_data]; omega) (by rw [len_data]; omega)
      have hg := HG.out (by rw [← he]; exact HD.out)
      have hcb := capv_bd _ HD.out
      rw [he] at hcb ⊢
      obtain ⟨g1, g2⟩ := hg
      generalize capv (body s.data.toList (s.size - 3)) = v at *
      clear he HD HB HG
      by_cases hv : 1000000000 < v
      · have ⟨hX, hE⟩ := g1 hv
        have hv' : (1000000000 : Int) < v := by omega
        go_wp2
        go_ret2
        exact ⟨by first | rfl | exact ret_two hX.symm hE.symm, rfl⟩
      · have ⟨hX, hE⟩ := g2 (by omega)
        have hv' : ((v : Nat) : Int) ≤ 1000000000 := by omega
        go_wp2
        go_ret2
        exact ⟨by first | rfl | exact ret_two (by first | rfl | omega) (by first | rfl | omega), rfl⟩

end Go.Proofs.YtanncjkkaeeiaaaGreatDoor
