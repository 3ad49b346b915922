/-
  The reference of package rational: Number for any string.
-/
import Derived.Test.YtpmlfchbihoflaaDoorRatRG
namespace Go.Proofs.YtpmlfchbihoflaaDoor
open Go.RowKit Go.Sort
open Go.RowKit (Below)

def dig (c : UInt8) : Prop := 48 ≤ c.toNat ∧ c.toNat ≤ 57
instance (c : UInt8) : Decidable (dig c) := inferInstanceAs (Decidable (_ ∧ _))
instance (l : List UInt8) : Decidable (Alld l) := inferInstanceAs (Decidable (∀ c ∈ l, dig c))
/-- The first byte that is no digit. -/
theorem first_non : ∀ l : List UInt8, ¬ Alld l → ∃ m : Nat, ∃ hm : m < l.length, (∀ i (hi : i < l.length), i < m → dig l[i]) ∧ ¬ dig l[m]
  | [], h => absurd (fun c hc => by cases hc) h
  | c :: l, h => by
    by_cases hc : dig c
    · have h2 : ¬ Alld l := fun h3 => h (fun x hx => by
        rcases List.mem_cons.1 hx with rfl | hx
        · exact hc
        · exact h3 x hx)
      obtain ⟨m, hm, h4, h5⟩ := first_non l h2
      refine ⟨m + 1, by simpa using hm, fun i hi him => ?_, by simpa using h5⟩
      cases i with
      | zero => exact hc
      | succ i => simpa using h4 i (by simpa using hi) (by omega)
    · exact ⟨0, by simp, fun i hi him => by omega, hc⟩

/-- What Number returns. -/
def numOk (l : List UInt8) : Bool := decide (1 ≤ l.length) && decide (l.length ≤ 10) && decide (Alld l)
def nmV (l : List UInt8) : Int := if numOk l = true then dval l else 0
def nmB (l : List UInt8) : Bool := numOk l && (Lib.decDigits (dval l) == l)

theorem number_any (s : ByteArray) (w : World) (hl : s.size ≤ 281474976710656) :
    Calls Tryd.prog 51 #[.string s] w fun e w' => e = .returned (.tuple #[.int .i64 (nmV s.data.toList), .bool (nmB s.data.toList)]) ∧ Below w.heap.size w w' := by
  unfold nmV nmB
  cases hk : numOk s.data.toList with
  | true =>
    unfold numOk at hk
    simp only [Bool.and_eq_true, decide_eq_true_eq, len_data] at hk
    have h := number_yes s w hk.1.1 hk.1.2 hk.2
    rw [ByteArray.toList_eq] at h
    simpa using h
  | false =>
    have hx : ∀ (e : Ending) (w' : World), e = .returned (.tuple #[.int .i64 0, .bool false]) ∧ w = w' → e = .returned (.tuple #[.int .i64 (if false = true then ((dval s.data.toList : Nat) : Int) else 0), .bool (false && (Lib.decDigits (dval s.data.toList) == s.data.toList))]) ∧ Below w.heap.size w w' := by
      rintro e w' ⟨rfl, rfl⟩
      exact ⟨by simp, Below.refl _ _⟩
    by_cases h : s.size < 1 ∨ 10 < s.size
    · exact (number_len s w hl h).mono hx
    · have hn : ¬ Alld s.data.toList := by
        intro ha
        unfold numOk at hk
        simp only [len_data, ha, decide_true, Bool.and_true, Bool.and_eq_false_iff, decide_eq_false_iff_not] at hk
        omega
      obtain ⟨m, hm, h1, h2⟩ := first_non _ hn
      have e : ∀ i (hi : i < s.size), s.data.toList[i]'(by rw [len_data]; exact hi) = s[i] := fun i hi => by simp; rfl
      rw [len_data] at hm
      refine (number_non s w (by omega) (by omega) m hm (fun i hi him => ?_) ?_).mono hx
      · have := h1 i (by rw [len_data]; exact hi) him
        rw [e i hi] at this
        exact this
      · rw [e m hm] at h2
        unfold dig at h2
        omega
end Go.Proofs.YtpmlfchbihoflaaDoor
