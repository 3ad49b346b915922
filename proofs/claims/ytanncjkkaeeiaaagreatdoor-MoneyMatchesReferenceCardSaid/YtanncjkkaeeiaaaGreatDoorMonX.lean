/-
  Package money: what the variables hold, for reading; the text of an amount is parsed to it, and what is parsed is the text of its amount.
-/
import Derived.Test.YtanncjkkaeeiaaaGreatDoorMonT
import Derived.Test.YtanncjkkaeeiaaaGreatDoorMonL
namespace Go.Proofs.YtanncjkkaeeiaaaGreatDoor
open Go.RowKit Go.Sort
open Go.RowKit (Below)

theorem st_of6 {W : World} (h : laidMetH Tryz.prog laid6 W) (hsh : W.ShapedOpen Tryz.prog) : St6 W := by
  have hl : laidMet Tryz.prog laid6 W := by rw [MakeChecks.laidMetH_plain _ _ _ (by kernel_rfl)] at h; exact h
  obtain ⟨a1, s1, hv1, -, -, -⟩ := laid_sentinel hl.tail.tail.tail gER gERType Tryz.underlying66 rowES Tryz.underlying120 Tryz.underlying122 rfl rfl Tryz.underlying9 cellsES cellsStr
  have hn := names_of hl.tail.tail.tail.tail.tail
  refine ⟨⟨Lib.tabIs_of_head gPow gPowType Tryz.underlying114 Tryz.underlying54 cellsU64 cellsPow (show laidMet Tryz.prog (("internal/strconv.uint64pow10", Lib.tabData .u64 Lib.pow10Tab) :: [("strconv.ErrRange", Rows.laid_strconv_ErrRange), ("strconv.ErrSyntax", Rows.laid_strconv_ErrSyntax), ("barcarole/money.names", Rows.laid_barcarole_money_names)]) W from hl.tail.tail), hn.1, hn.2, size_of hl.tail⟩, Tryz.laysM145.s1_3 W hsh, ⟨120, .pointer (some a1), ?_⟩⟩
  · have h0 := World.var?_cell gER hv1 0; simpa using h0

theorem itS_list (u : Nat) (x : Int) (h : x = u) : (itS x).data.toList = Lib.decDigits u := by
  subst h
  unfold itS Lib.itoa
  rw [if_neg (by omega)]
  simp
theorem mtx_list (c : Int) : (mtx c).data.toList = mtl c := by
  have e1 := itS_list (c.natAbs / 100) (c.natAbs / 100) (by omega)
  have e2 := itS_list (c.natAbs / 10 % 10) (c.natAbs / 10 % 10) (by omega)
  have e3 := itS_list (c.natAbs % 10) (c.natAbs % 10) (by omega)
  rw [Lib.decDigits_one (by omega)] at e2 e3
  have e0 : (sgT c).data.toList = if c < 0 then [45] else [] := by unfold sgT; split <;> rfl
  unfold mtx mtl
  simp only [ByteArray.data_append, Array.toList_append, e0, e1, e2, e3]
  simp
def nml (f : Int) : List UInt8 := if f = 1 then [69, 85, 82, 32] else [67, 72, 70, 32]
theorem mtc_list (c f : Int) : (mtc c f).data.toList = nml f ++ mtl c := by
  unfold mtc nml
  simp only [ByteArray.data_append, Array.toList_append, mtx_list]
  unfold nmT
  split <;> rfl
theorem mtc_size (c f : Int) (h : Bd c) : (mtc c f).size ≤ 100 := by
  have := mtx_size c h
  unfold mtc
  rw [ByteArray.size_append, ByteArray.size_append, nmT_size, sp_size]
  omega
theorem chp_nm (l : List UInt8) : chp ([67, 72, 70, 32] ++ l) = true := by simp [chp, Lib.hasPrefix, List.isPrefixOf]
theorem eup_nm (l : List UInt8) : eup ([69, 85, 82, 32] ++ l) = true := by simp [eup, Lib.hasPrefix, List.isPrefixOf]
theorem rc_text {c : Int} (h : am c = true) : rcN (mtl c) = c ∧ rcE (mtl c) = 0 := by
  obtain ⟨h1, h2⟩ := text_form c
  rw [rcN, if_pos h1, rcE, if_pos h1, h2, rsN, if_pos h, rsE, if_pos h]
  exact ⟨rfl, rfl⟩
theorem rc_back {l : List UInt8} (h : rcE l = 0) : am (rcN l) = true ∧ mtl (rcN l) = l := by
  unfold rcE at h
  unfold rcN
  by_cases hf : fm l = true
  · rw [if_pos hf] at h ⊢
    unfold rsE at h
    unfold rsN
    by_cases ha : am (sv l) = true
    · rw [if_pos ha]; exact ⟨ha, form_text hf⟩
    · rw [if_neg ha] at h; cases h
  · rw [if_neg hf] at h; cases h
theorem rc_errs (l : List UInt8) : rcE l = 0 ∨ rcE l = 3 ∨ rcE l = 8 := by
  unfold rcE rsE
  split
  · split <;> simp
  · simp
theorem parse_text {c f : Int} (hc : am c = true) (hf : cur f = true) : pN (mtc c f).data.toList = c ∧ pK (mtc c f).data.toList = f ∧ pE (mtc c f).data.toList = 0 := by
  obtain ⟨r1, r2⟩ := rc_text hc
  rw [mtc_list]
  rcases cur_iff.1 hf with rfl | rfl
  · have e1 := chp_nm (mtl c)
    have e2 := pre_not e1
    have ed : (([67, 72, 70, 32] ++ mtl c).drop 4) = mtl c := rfl
    rw [show nml 0 = [67, 72, 70, 32] from rfl, pN, pE, pK, ed, e1, e2, r1, r2]
    exact ⟨rfl, rfl, rfl⟩
  · have e2 := eup_nm (mtl c)
    have e1 : chp ([69, 85, 82, 32] ++ mtl c) = false := by
      cases h : chp ([69, 85, 82, 32] ++ mtl c) with
      | false => rfl
      | true => rw [pre_not h] at e2; cases e2
    have ed : (([69, 85, 82, 32] ++ mtl c).drop 4) = mtl c := rfl
    rw [show nml 1 = [69, 85, 82, 32] from rfl, pN, pE, pK, ed, e1, e2, r1, r2]
    exact ⟨rfl, rfl, rfl⟩
theorem pre_take {l p : List UInt8} (h : Lib.hasPrefix l p = true) : p ++ l.drop p.length = l := by
  unfold Lib.hasPrefix at h
  obtain ⟨t, rfl⟩ := List.isPrefixOf_iff_prefix.1 h
  simp
theorem parse_back {s : ByteArray} (h : pE s.data.toList = 0) : am (pN s.data.toList) = true ∧ cur (pK s.data.toList) = true ∧ mtc (pN s.data.toList) (pK s.data.toList) = s := by
  unfold pE at h
  by_cases hh : (chp s.data.toList || eup s.data.toList) = true
  · rw [if_pos hh] at h
    obtain ⟨r1, r2⟩ := rc_back h
    have eN : pN s.data.toList = rcN (s.data.toList.drop 4) := by rw [pN, if_pos hh]
    rw [eN]
    cases he : eup s.data.toList with
    | true =>
      have eK : pK s.data.toList = 1 := by rw [pK, if_pos ⟨he, h⟩]
      rw [eK]
      refine ⟨r1, rfl, str_ext ?_⟩
      rw [mtc_list, r2]
      exact pre_take he
    | false =>
      have hc : chp s.data.toList = true := by rw [he] at hh; simpa using hh
      have eK : pK s.data.toList = 0 := by rw [pK, if_neg (by simp [he])]
      rw [eK]
      refine ⟨r1, rfl, str_ext ?_⟩
      rw [mtc_list, r2]
      exact pre_take hc
  · rw [if_neg hh] at h; cases h
theorem parse_fail {l : List UInt8} (h : pE l ≠ 0) : (pE l = 3 ∨ pE l = 8) ∧ pN l = 0 ∧ pK l = 0 := by
  unfold pE at h ⊢
  unfold pN pK
  by_cases hh : (chp l || eup l) = true
  · rw [if_pos hh] at h ⊢
    rw [if_pos hh]
    refine ⟨?_, rc_err h, if_neg fun h' => h h'.2⟩
    rcases rc_errs (l.drop 4) with h' | h' | h'
    · exact absurd h' h
    · exact .inl h'
    · exact .inr h'
  · rw [if_neg hh]
    rw [if_neg hh]
    refine ⟨.inr rfl, rfl, if_neg fun h' => hh (by simp [h'.1])⟩
end Go.Proofs.YtanncjkkaeeiaaaGreatDoor
