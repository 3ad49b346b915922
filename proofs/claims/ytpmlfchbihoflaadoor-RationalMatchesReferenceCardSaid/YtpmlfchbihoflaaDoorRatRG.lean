/-
  The reference of package rational: Number reads up to ten digits.
-/
import Derived.Test.YtpmlfchbihoflaaDoorRatRF
namespace Go.Proofs.YtpmlfchbihoflaaDoor
open Go.RowKit Go.Sort
open Go.RowKit (Below)

/-- The value of a row of digits. -/
def dval (l : List UInt8) : Nat := l.foldl (fun n c => 10 * n + (c.toNat - 48)) 0
def Alld (l : List UInt8) : Prop := ∀ c ∈ l, 48 ≤ c.toNat ∧ c.toNat ≤ 57
theorem dval_snoc (l : List UInt8) (c : UInt8) : dval (l ++ [c]) = 10 * dval l + (c.toNat - 48) := by simp [dval]
theorem dval_from (l : List UInt8) (h : Alld l) : ∀ acc, l.foldl (fun n c => 10 * n + (c.toNat - 48)) acc < (acc + 1) * 10 ^ l.length := by
  induction l with
  | nil => intro acc; simp
  | cons c l ih =>
    intro acc
    have h1 := ih (fun x hx => h x (by simp [hx])) (10 * acc + (c.toNat - 48))
    have h2 := h c (by simp)
    rw [List.foldl_cons, List.length_cons, Nat.pow_succ]
    refine Nat.lt_of_lt_of_le h1 ?_
    rw [Nat.mul_comm (10 ^ l.length) 10, ← Nat.mul_assoc]
    exact Nat.mul_le_mul_right _ (by omega)
theorem dval_lt (l : List UInt8) (h : Alld l) : dval l < 10 ^ l.length := by
  have := dval_from l h 0
  simpa [dval] using this
theorem dval_le {l : List UInt8} (h : Alld l) {k : Nat} (hk : l.length ≤ k) : dval l < 10 ^ k :=
  Nat.lt_of_lt_of_le (dval_lt l h) (Nat.pow_le_pow_right (by omega) hk)
theorem dval_next (s : ByteArray) (k : Nat) (h : k < s.size) : dval (s.data.toList.take (k + 1)) = 10 * dval (s.data.toList.take k) + (s[k].toNat - 48) := by
  have e : s.data.toList.take (k + 1) = s.data.toList.take k ++ [s[k]] := by
    rw [List.take_add_one]
    congr 1
    have : s.data.toList[k]? = some s[k] := by
      rw [Array.getElem?_toList]
      exact Array.getElem?_eq_getElem h
    rw [this]; rfl
  rw [e, dval_snoc]
theorem mem_at (s : ByteArray) (k : Nat) (h : k < s.size) : s[k] ∈ s.data.toList := by
  have : s.data.toList[k]? = some s[k] := by
    rw [Array.getElem?_toList]
    exact Array.getElem?_eq_getElem h
  exact List.mem_of_getElem? this
theorem len_data (s : ByteArray) : s.data.toList.length = s.size := by simp

set_option maxRecDepth 100000 in
set_option maxHeartbeats 800000 in
theorem number_yes (s : ByteArray) (w : World) (h1 : 1 ≤ s.size) (h2 : s.size ≤ 10) (h3 : Alld s.data.toList) :
    Calls Tryd.prog 51 #[.string s] w fun e w' => e = .returned (.tuple #[.int .i64 (dval s.data.toList), .bool (Lib.decDigits (dval s.data.toList) == s.toList)]) ∧ Below w.heap.size w w' := by
  have H3 := Lib.hid h3; clear h3
  go_enter Tryd.func51, Tryd.ntmps51
  go_wp2
  go_loopw [4, 5] (fun a b wr => ∃ k : Nat, k ≤ s.size ∧ a = .int .i64 (dval (s.data.toList.take k) : Nat) ∧ b = .int .i64 k ∧ w = wr) (fun _ b _ => s.size - (intOf b).toNat)
  case atStart => exact ⟨0, by omega, by simp [dval], rfl, rfl⟩
  case round =>
    obtain ⟨k, hk, rfl, rfl, rfl⟩ := hrel
    by_cases hlt : k < s.size
    · have hc := H3.out _ (mem_at s k hlt)
      have hn := dval_next s k hlt
      have hb : dval (s.data.toList.take k) < 10 ^ 9 := dval_le (fun c hc => H3.out c (List.mem_of_mem_take hc)) (by rw [List.length_take]; omega)
      generalize dval (s.data.toList.take k) = x at *
      have hc1 : (48 : Int) ≤ s[k].toNat := by omega
      have hc2 : (s[k].toNat : Int) ≤ 57 := by omega
      have hb1 : (0 : Int) ≤ x := by omega
      have hb2 : (x : Int) ≤ 999999999 := by omega
      have HN := Lib.hid hn
      clear hc hn hb
      go_wp2
      go_roundw
      case rel => exact ⟨k + 1, by omega, by rw [HN.out]; exact ret_val (by omega), by go_num, by first | rfl | trivial⟩
      case measure => simp [intOf]; omega
    · have hk2 : s.data.toList.take k = s.data.toList := List.take_of_length_le (by rw [len_data]; omega)
      have hb : dval s.data.toList < 10 ^ 10 := dval_le H3.out (by rw [len_data]; omega)
      rw [hk2]
      have HD := Lib.hid (fun w => digits_any (dval s.data.toList) w (by omega))
      clear hk2 hb
      go_wp2_with fail
      refine (HD.out _).mono ?_
      rintro e w1 ⟨rfl, hb1⟩
      go_wp2
      go_ret2
      exact ⟨rfl, hb1⟩

set_option maxRecDepth 100000 in
set_option maxHeartbeats 800000 in
theorem number_len (s : ByteArray) (w : World) (hl : s.size ≤ 281474976710656) (h : s.size < 1 ∨ 10 < s.size) :
    Calls Tryd.prog 51 #[.string s] w fun e w' => e = .returned (.tuple #[.int .i64 0, .bool false]) ∧ w = w' := by
  rcases h with h | h
  · go_enter Tryd.func51, Tryd.ntmps51
    go_wp2
    go_ret2
    exact ⟨rfl, rfl⟩
  · go_enter Tryd.func51, Tryd.ntmps51
    go_wp2
    go_ret2
    exact ⟨rfl, rfl⟩

set_option maxRecDepth 100000 in
set_option maxHeartbeats 800000 in
theorem number_non (s : ByteArray) (w : World) (h1 : 1 ≤ s.size) (h2 : s.size ≤ 10) (m : Nat) (hm : m < s.size) (h3 : ∀ i (hi : i < s.size), i < m → 48 ≤ s[i].toNat ∧ s[i].toNat ≤ 57) (h4 : s[m].toNat < 48 ∨ 57 < s[m].toNat) :
    Calls Tryd.prog 51 #[.string s] w fun e w' => e = .returned (.tuple #[.int .i64 0, .bool false]) ∧ w = w' := by
  have H3 := Lib.hid h3; clear h3
  have H4 := Lib.hid h4; clear h4
  go_enter Tryd.func51, Tryd.ntmps51
  go_wp2
  go_loopw [4, 5] (fun a b wr => ∃ k x : Nat, k ≤ m ∧ x < 10 ^ k ∧ a = .int .i64 x ∧ b = .int .i64 k ∧ w = wr) (fun _ b _ => s.size - (intOf b).toNat)
  case atStart => exact ⟨0, 0, by omega, by simp, rfl, rfl, rfl⟩
  case round =>
    obtain ⟨k, x, hk, hx, rfl, rfl, rfl⟩ := hrel
    have hlt : k < s.size := by omega
    by_cases hkm : k < m
    · have hc := H3.out k hlt hkm
      have hb : x < 10 ^ 9 := Nat.lt_of_lt_of_le hx (Nat.pow_le_pow_right (by omega) (by omega))
      have hnx : 10 * x + (s[k].toNat - 48) < 10 ^ (k + 1) := by rw [Nat.pow_succ]; omega
      have hc1 : (48 : Int) ≤ s[k].toNat := by omega
      have hc2 : (s[k].toNat : Int) ≤ 57 := by omega
      have hb1 : (0 : Int) ≤ x := by omega
      have hb2 : (x : Int) ≤ 999999999 := by omega
      have HX := Lib.hid hnx
      clear hc hb hnx hx
      go_wp2
      go_roundw
      case rel => exact ⟨k + 1, _, by omega, HX.out, ret_val (by omega), by go_num, by first | rfl | trivial⟩
      case measure => simp [intOf]; omega
    · obtain rfl : k = m := by omega
      clear hx
      have h4 := H4.out
      clear H4
      have h5 : (s[k].toNat : Int) < 48 ∨ ((48 : Int) ≤ s[k].toNat ∧ (57 : Int) < s[k].toNat) := by omega
      clear h4
      rcases h5 with h5 | ⟨h5, h6⟩
      · go_wp2
        go_ret2
        exact ⟨rfl, rfl⟩
      · go_wp2
        go_ret2
        exact ⟨rfl, rfl⟩
end Go.Proofs.YtpmlfchbihoflaaDoor
