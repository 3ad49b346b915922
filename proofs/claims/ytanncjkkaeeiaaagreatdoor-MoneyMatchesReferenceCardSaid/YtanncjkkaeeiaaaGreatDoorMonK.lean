/-
  Package money: areDigits and isNumeral, for all strings of up to so many bytes.
-/
import Derived.Test.YtanncjkkaeeiaaaGreatDoorMonB
import Derived.Test.YtanncjkkaeeiaaaGreatDoorMonJ
namespace Go.Proofs.YtanncjkkaeeiaaaGreatDoor
open Go.RowKit Go.Sort
open Go.RowKit (Below)

theorem mem_at (s : ByteArray) (k : Nat) (h : k < s.size) : s[k] ∈ s.data.toList := by
  have : s.data.toList[k]? = some s[k] := by
    rw [Array.getElem?_toList]
    exact Array.getElem?_eq_getElem h
  exact List.mem_of_getElem? this
theorem len_data (s : ByteArray) : s.data.toList.length = s.size := by simp
theorem size_list (l : List UInt8) : (⟨l.toArray⟩ : ByteArray).size = l.length := by rw [Array.length_toList]; rfl
theorem dig_no {l : List UInt8} {c : UInt8} (hm : c ∈ l) (h : (c.toNat : Int) < 48 ∨ (57 : Int) < c.toNat) : false = digl l := by
  rw [Eq.comm, ← Bool.not_eq_true, digl_iff]
  intro hd
  have := hd c hm
  omega
theorem dig_all (s : ByteArray) (k : Nat) (hk : ¬ k < s.size) (h : ∀ j (hj : j < s.size), j < k → (48 : Int) ≤ s[j].toNat ∧ (s[j].toNat : Int) ≤ 57) : true = digl s.data.toList := by
  rw [Eq.comm, digl_iff]
  intro c hc
  obtain ⟨j, hj, rfl⟩ := List.getElem_of_mem hc
  have hj' : j < s.size := by rw [← len_data]; exact hj
  have := h j hj' (by omega)
  simp only [Array.getElem_toList]
  change 48 ≤ (s[j]).toNat ∧ (s[j]).toNat ≤ 57
  omega

set_option maxHeartbeats 400000 in
theorem areDigits_any (s : ByteArray) (w : World) (hl : s.size ≤ 281474976710656) :
    Calls Tryz.prog 51 #[.string s] w fun e w' => e = .returned (.bool (digl s.data.toList)) ∧ w = w' := by
  go_enter Tryz.func51, Tryz.ntmps51
  go_wp2
  go_loop [6] (fun i => ∃ k : Nat, k ≤ s.size ∧ i = .int .i64 k ∧ Hid (∀ j (hj : j < s.size), j < k → (48 : Int) ≤ s[j].toNat ∧ (s[j].toNat : Int) ≤ 57)) (fun i => s.size - (intOf i).toNat)
  case atStart => exact ⟨0, Nat.zero_le _, rfl, fun j _ hj => absurd hj (Nat.not_lt_zero j)⟩
  case round =>
    obtain ⟨k, hk, rfl, HK⟩ := hrel
    by_cases hlt : k < s.size
    · have HM := Lib.hid (mem_at s k hlt)
      by_cases h0 : (s[k].toNat : Int) < 48
      · go_wp2
        go_ret
        exact ⟨ret_bool (dig_no HM.out (.inl h0)), rfl⟩
      · have h0' : (48 : Int) ≤ s[k].toNat := by omega
        by_cases h1 : (57 : Int) < s[k].toNat
        · go_wp2
          go_ret
          exact ⟨ret_bool (dig_no HM.out (.inr h1)), rfl⟩
        · go_wp2
          go_round
          case rel => exact ⟨k + 1, by omega, by go_num, fun j hj hjk => by
            by_cases e : j = k
            · subst e; omega
            · exact HK.out j hj (by omega)⟩
          case measure => simp [intOf]; omega
    · have HD := Lib.hid (dig_all s k hlt HK.out)
      go_wp2
      go_ret
      exact ⟨ret_bool HD.out, rfl⟩
theorem areDigits_b (s : ByteArray) (b : Bool) (h : digl s.data.toList = b) (w : World) (hl : s.size ≤ 281474976710656) :
    Calls Tryz.prog 51 #[.string s] w fun e w' => e = .returned (.bool b) ∧ w = w' := by subst h; exact areDigits_any s w hl

theorem eq_str (a b : ByteArray) : (a.toList == b.toList) = (a.data.toList == b.data.toList) := by rw [ByteArray.toList_eq, ByteArray.toList_eq]

set_option maxHeartbeats 400000 in
theorem isNumeral_any (s : ByteArray) (w : World) (hl : s.size ≤ 281474976710656) :
    Calls Tryz.prog 50 #[.string s] w fun e w' => e = .returned (.bool (numl s.data.toList)) ∧ w = w' := by
  have e1 : (s.toList == [48]) = (s.data.toList == [48]) := by rw [ByteArray.toList_eq]
  have e2 : (s.toList == []) = (s.data.toList == []) := by rw [ByteArray.toList_eq]
  by_cases h1 : s.data.toList = [48]
  · have t1 : (s.toList == [48]) = true := by rw [e1, h1]; rfl
    have hn : numl s.data.toList = true := by rw [h1]; decide
    have HN := Lib.hid hn
    clear e1 e2 h1 hn
    go_enter Tryz.func50, Tryz.ntmps50
    go_wp2
    go_ret
    exact ⟨ret_bool HN.out.symm, rfl⟩
  · have t1 : (s.toList == [48]) = false := by rw [e1, beq_eq_false_iff_ne]; exact h1
    by_cases h2 : s.data.toList = []
    · have t2 : (s.toList == []) = true := by rw [e2, h2]; rfl
      have hn : numl s.data.toList = false := by rw [h2]; decide
      have HN := Lib.hid hn
      clear e1 e2 h1 hn h2
      go_enter Tryz.func50, Tryz.ntmps50
      go_wp2
      go_ret
      exact ⟨ret_bool HN.out.symm, rfl⟩
    · have t2 : (s.toList == []) = false := by rw [e2, beq_eq_false_iff_ne]; exact h2
      have h0 : 0 < s.size := by rw [← len_data]; exact List.length_pos_iff.2 h2
      have hh : s.data.toList.headD 0 = s[0] := by
        have : s.data.toList[0]? = some s[0] := by
          rw [Array.getElem?_toList]
          exact Array.getElem?_eq_getElem h0
        cases hd : s.data.toList with
        | nil => exact absurd hd h2
        | cons a b => rw [hd] at this; simpa using this
      by_cases h3 : s[0].toNat = 48
      · have hn : numl s.data.toList = false := by
          rw [← Bool.not_eq_true, numl_iff, hh]
          rintro (h | ⟨_, h, _⟩)
          · exact h1 h
          · exact h (UInt8.toNat_inj.1 h3)
        have HN := Lib.hid hn
        have h3' : (s[0].toNat : Int) = 48 := by omega
        clear e1 e2 h1 hn h2 hh h3
        go_enter Tryz.func50, Tryz.ntmps50
        go_wp2
        go_ret
        exact ⟨ret_bool HN.out.symm, rfl⟩
      · have hn : digl s.data.toList = numl s.data.toList := by
          rw [Bool.eq_iff_iff, numl_iff, hh]
          refine ⟨fun h => .inr ⟨h2, fun e => h3 (by rw [e]; rfl), h⟩, ?_⟩
          rintro (h | ⟨_, _, h⟩)
          · exact absurd h h1
          · exact h
        have HN := Lib.hid hn
        have h3' : ((s[0].toNat : Int) != 48) = true := by rw [bne_iff_ne]; omega
        clear e1 e2 h1 hn h2 hh h3
        go_enter Tryz.func50, Tryz.ntmps50
        go_wp2_with (go_at_call 51; refine (areDigits_any _ _ hl).mono ?_; rintro e w' ⟨rfl, rfl⟩)
        go_ret
        exact ⟨ret_bool HN.out, rfl⟩
theorem isNumeral_b (s : ByteArray) (b : Bool) (h : numl s.data.toList = b) (w : World) (hl : s.size ≤ 281474976710656) :
    Calls Tryz.prog 50 #[.string s] w fun e w' => e = .returned (.bool b) ∧ w = w' := by subst h; exact isNumeral_any s w hl
end Go.Proofs.YtanncjkkaeeiaaaGreatDoor
