/-
  The reference of package money: number and Parse answer as readCents and Parse of package money do.
-/
import Derived.Test.YtanncjkkaeeiaaaGreatDoorMonRW
namespace Go.Proofs.YtanncjkkaeeiaaaGreatDoor
open Go.RowKit Go.Sort
open Go.RowKit (Below)
set_option linter.unusedVariables false

theorem rc_of_bad {l : List UInt8} (h : fm l = false) : rcN l = 0 ∧ rcE l = 8 := ⟨by rw [rcN, if_neg (by simp [h])], by rw [rcE, if_neg (by simp [h])]⟩
theorem rc_of_big {l : List UInt8} (hf : fm l = true) (h : 1000000000 < vl l) : rcN l = 0 ∧ rcE l = 3 := by
  have hb : sv l < -1000000000 ∨ 1000000000 < sv l := by unfold sv; split <;> omega
  rw [rcN, if_pos hf, rcE, if_pos hf]
  exact rs_big hb
theorem rc_of_fit {l : List UInt8} (hf : fm l = true) (h : vl l ≤ 1000000000) : rcN l = sv l ∧ rcE l = 0 := by
  have hb : am (sv l) = true := by rw [am_iff]; unfold sv; split <;> omega
  rw [rcN, if_pos hf, rcE, if_pos hf, rsN, if_pos hb, rsE, if_pos hb]
  exact ⟨rfl, rfl⟩
theorem byte_getD (T : ByteArray) (k : Nat) (h : k < T.size) : T.data.toList.getD k 0 = T[k] := by
  have : T.data.toList[k]? = some T[k] := by
    rw [Array.getElem?_toList]
    exact Array.getElem?_eq_getElem h
  rw [List.getD_eq_getElem?_getD, this]; rfl
theorem byte_head (T : ByteArray) (h : 0 < T.size) : T.data.toList.headD 0 = T[0] := by
  have := byte_getD T 0 h
  cases hd : T.data.toList with
  | nil => have := len_data T; rw [hd] at this; simp at this; omega
  | cons a b => rw [hd] at this; simpa using this
theorem to46 {c : UInt8} (h : c = 46) : (c.toNat : Int) = 46 := by rw [h]; rfl
theorem of46 {c : UInt8} (h : (c.toNat : Int) = 46) : c = 46 := UInt8.toNat_inj.1 (by have : (46 : UInt8).toNat = 46 := rfl; omega)
theorem of48 {c : UInt8} (h : (c.toNat : Int) = 48) : c = 48 := UInt8.toNat_inj.1 (by have : (48 : UInt8).toNat = 48 := rfl; omega)

/-- What the reference's tests come to. -/
theorem num_facts (l : List UInt8) (p : Nat) (hT : (tl l).length = p + 3) (hp : 1 ≤ p) (h46 : (tl l).getD p 0 = 46) (h48 : (tl l).headD 0 = 48 → p = 1) :
    (digl (body (tl l) p) = false → rcN l = 0 ∧ rcE l = 8) ∧
    (digl (body (tl l) p) = true →
      (ng l = true → (capv (body (tl l) p) = 0 → rcN l = 0 ∧ rcE l = 8) ∧ (1000000000 < capv (body (tl l) p) → rcN l = 0 ∧ rcE l = 3) ∧ (1 ≤ capv (body (tl l) p) → capv (body (tl l) p) ≤ 1000000000 → rcN l = -(capv (body (tl l) p) : Int) ∧ rcE l = 0)) ∧
      (ng l = false → (1000000000 < capv (body (tl l) p) → rcN l = 0 ∧ rcE l = 3) ∧ (capv (body (tl l) p) ≤ 1000000000 → rcN l = (capv (body (tl l) p) : Int) ∧ rcE l = 0))) := by
  refine ⟨fun hb => rc_of_bad ?_, fun hg => ?_⟩
  · rw [← Bool.not_eq_true]
    intro hf
    rw [(fm_frm hT hf).2.2] at hb; cases hb
  · obtain ⟨f1, f2, f3⟩ := frm_num hT hp ⟨h46, h48, hg⟩
    have ⟨c1, c2⟩ := capv_dval (body (tl l) p)
    have key : 1 ≤ dval (body (tl l) p) ∨ ng l = false → fm l = true := fun h => f1.2 fun e => by
      obtain ⟨g1, g2⟩ := f3.2 e
      rcases h with h | h
      · omega
      · rw [g1] at h; cases h
    refine ⟨fun hn => ⟨fun h0 => ?_, fun hb => ?_, fun h1 h2 => ?_⟩, fun hn => ⟨fun hb => ?_, fun h2 => ?_⟩⟩
    · have hd : dval (body (tl l) p) = 0 := by
        by_cases h : dval (body (tl l) p) ≤ 1000000000
        · rw [← c1 h]; exact h0
        · have := c2 (by omega); omega
      refine rc_of_bad ?_
      rw [← Bool.not_eq_true]
      exact fun hf => f1.1 hf (f3.1 ⟨hn, hd⟩)
    · have hd : 1000000000 < dval (body (tl l) p) := by
        by_cases h : dval (body (tl l) p) ≤ 1000000000
        · have := c1 h; omega
        · omega
      exact rc_of_big (key (.inl (by omega))) (by rw [f2]; exact hd)
    · have hd : dval (body (tl l) p) ≤ 1000000000 := by
        by_cases h : dval (body (tl l) p) ≤ 1000000000
        · exact h
        · have := c2 (by omega); omega
      have he := c1 hd
      have := rc_of_fit (key (.inl (by omega))) (by rw [f2]; exact hd)
      rw [this.1, this.2, sv, if_pos hn, f2, he]
      exact ⟨rfl, rfl⟩
    · have hd : 1000000000 < dval (body (tl l) p) := by
        by_cases h : dval (body (tl l) p) ≤ 1000000000
        · have := c1 h; omega
        · omega
      exact rc_of_big (key (.inr hn)) (by rw [f2]; exact hd)
    · have hd : dval (body (tl l) p) ≤ 1000000000 := by
        by_cases h : dval (body (tl l) p) ≤ 1000000000
        · exact h
        · have := c2 (by omega); omega
      have he := c1 hd
      have := rc_of_fit (key (.inr hn)) (by rw [f2]; exact hd)
      rw [this.1, this.2, sv, if_neg (by simp [hn]), f2, he]
      exact ⟨rfl, rfl⟩

theorem number_neg (s : ByteArray) (hl : s.size ≤ 200) (w : World) (h0 : 0 < s.size) (hs0 : (s[0].toNat : Int) = 45) (T : ByteArray) (hT : s.extract 1 s.size = T) (ht : tl s.data.toList = T.data.toList) (hn : ng s.data.toList = true) :
    Calls Tryz.prog 35 #[.string s] w fun e w' => e = .returned (.tuple #[.int .i64 (rcN s.data.toList), .int .i64 (rcE s.data.toList)]) ∧ w = w' := by
  have hln : (tl s.data.toList).length = T.size := by rw [ht, len_data]
  by_cases h4 : T.size < 4
  · obtain ⟨e1, e2⟩ := rc_of_bad (fm_short (by rw [hln]; exact h4))
    exact number_short_neg s w hl h0 hs0 T hT _ _ e1 e2 h4
  · have hT3 : (tl s.data.toList).length = (T.size - 3) + 3 := by rw [hln]; omega
    have hget : (tl s.data.toList).getD (T.size - 3) 0 = T[T.size - 3]'(by omega) := by rw [ht]; exact byte_getD _ _ (by omega)
    have hhead : (tl s.data.toList).headD 0 = T[0]'(by omega) := by rw [ht]; exact byte_head _ (by omega)
    by_cases h46 : ((T[T.size - 3]'(by omega)).toNat : Int) = 46
    · by_cases h48 : ((T[0]'(by omega)).toNat : Int) = 48
      · by_cases h5 : T.size ≤ 4
        · obtain ⟨hb1, hg1⟩ := num_facts s.data.toList (T.size - 3) hT3 (by omega) (by rw [hget]; exact of46 h46) (fun _ => by omega)
          rw [ht] at hb1 hg1
          exact number_mainB_neg s w hl h0 hs0 T hT _ _ (by omega) h46 h48 h5 hb1 (fun h => (hg1 h).1 hn)
        · have hb : fm s.data.toList = false := by
            rw [← Bool.not_eq_true]
            intro hf
            have := (fm_frm hT3 hf).2.1 (by rw [hhead]; exact of48 h48)
            omega
          obtain ⟨e1, e2⟩ := rc_of_bad hb
          exact number_lead_neg s w hl h0 hs0 T hT _ _ e1 e2 (by omega) h46 h48
      · obtain ⟨hb1, hg1⟩ := num_facts s.data.toList (T.size - 3) hT3 (by omega) (by rw [hget]; exact of46 h46) (fun h => by
          rw [hhead] at h
          exact absurd (show ((T[0]'(by omega)).toNat : Int) = 48 by rw [h]; rfl) h48)
        rw [ht] at hb1 hg1
        exact number_mainA_neg s w hl h0 hs0 T hT _ _ (by omega) h46 (by rw [beq_eq_false_iff_ne]; exact h48) hb1 (fun h => (hg1 h).1 hn)
    · have hb : fm s.data.toList = false := by
        rw [← Bool.not_eq_true]
        intro hf
        have := (fm_frm hT3 hf).1
        rw [hget] at this
        exact h46 (to46 this)
      obtain ⟨e1, e2⟩ := rc_of_bad hb
      exact number_nopt_neg s w hl h0 hs0 T hT _ _ e1 e2 (by omega) (by rw [bne_iff_ne]; exact h46)

theorem number_pos (s : ByteArray) (hl : s.size ≤ 200) (w : World) (h0 : 0 < s.size) (hs0 : ((s[0].toNat : Int) == 45) = false) (ht : tl s.data.toList = s.data.toList) (hn : ng s.data.toList = false) :
    Calls Tryz.prog 35 #[.string s] w fun e w' => e = .returned (.tuple #[.int .i64 (rcN s.data.toList), .int .i64 (rcE s.data.toList)]) ∧ w = w' := by
  have hln : (tl s.data.toList).length = s.size := by rw [ht, len_data]
  by_cases h4 : s.size < 4
  · obtain ⟨e1, e2⟩ := rc_of_bad (fm_short (by rw [hln]; exact h4))
    exact number_short_pos s w hl h0 hs0 _ _ e1 e2 h4
  · have hT3 : (tl s.data.toList).length = (s.size - 3) + 3 := by rw [hln]; omega
    have hget : (tl s.data.toList).getD (s.size - 3) 0 = s[s.size - 3]'(by omega) := by rw [ht]; exact byte_getD _ _ (by omega)
    have hhead : (tl s.data.toList).headD 0 = s[0]'(by omega) := by rw [ht]; exact byte_head _ (by omega)
    by_cases h46 : ((s[s.size - 3]'(by omega)).toNat : Int) = 46
    · by_cases h48 : ((s[0]'(by omega)).toNat : Int) = 48
      · by_cases h5 : s.size ≤ 4
        · obtain ⟨hb1, hg1⟩ := num_facts s.data.toList (s.size - 3) hT3 (by omega) (by rw [hget]; exact of46 h46) (fun _ => by omega)
          rw [ht] at hb1 hg1
          exact number_mainB_pos s w hl h0 hs0 _ _ (by omega) h46 h48 h5 hb1 (fun h => (hg1 h).2 hn)
        · have hb : fm s.data.toList = false := by
            rw [← Bool.not_eq_true]
            intro hf
            have := (fm_frm hT3 hf).2.1 (by rw [hhead]; exact of48 h48)
            omega
          obtain ⟨e1, e2⟩ := rc_of_bad hb
          exact number_lead_pos s w hl h0 hs0 _ _ e1 e2 (by omega) h46 h48
      · obtain ⟨hb1, hg1⟩ := num_facts s.data.toList (s.size - 3) hT3 (by omega) (by rw [hget]; exact of46 h46) (fun h => by
          rw [hhead] at h
          exact absurd (show ((s[0]'(by omega)).toNat : Int) = 48 by rw [h]; rfl) h48)
        rw [ht] at hb1 hg1
        exact number_mainA_pos s w hl h0 hs0 _ _ (by omega) h46 (by rw [beq_eq_false_iff_ne]; exact h48) hb1 (fun h => (hg1 h).2 hn)
    · have hb : fm s.data.toList = false := by
        rw [← Bool.not_eq_true]
        intro hf
        have := (fm_frm hT3 hf).1
        rw [hget] at this
        exact h46 (to46 this)
      obtain ⟨e1, e2⟩ := rc_of_bad hb
      exact number_nopt_pos s w hl h0 hs0 _ _ e1 e2 (by omega) (by rw [bne_iff_ne]; exact h46)

theorem number_any (s : ByteArray) (hl : s.size ≤ 200) (w : World) :
    Calls Tryz.prog 35 #[.string s] w fun e w' => e = .returned (.tuple #[.int .i64 (rcN s.data.toList), .int .i64 (rcE s.data.toList)]) ∧ w = w' := by
  by_cases h0 : s.size < 1
  · have he : s.data.toList = [] := List.eq_nil_of_length_eq_zero (by rw [len_data]; omega)
    obtain ⟨e1, e2⟩ := rc_of_bad (l := s.data.toList) (fm_short (by rw [he]; decide))
    exact number_emp s w _ _ e1 e2 h0
  · have hh := byte_head s (by omega)
    rcases ng_cases s.data.toList with ⟨r, e1, e2, e3⟩ | ⟨e1, e2, e3⟩
    · have hs0 : ((s[0]'(by omega)).toNat : Int) = 45 := by rw [← hh, e1]; rfl
      refine number_neg s hl w (by omega) hs0 _ rfl ?_ e2
      rw [e3, Lib.extract_data, e1, ← len_data, e1]
      simp
    · have hs0 : (((s[0]'(by omega)).toNat : Int) == 45) = false := by
        rw [beq_eq_false_iff_ne]
        intro h
        exact e1 (by rw [hh]; exact UInt8.toNat_inj.1 (by have : (45 : UInt8).toNat = 45 := rfl; omega))
      exact number_pos s hl w (by omega) hs0 e3 e2

end Go.Proofs.YtanncjkkaeeiaaaGreatDoor
