/-
  The reference of package rational: Digits returns the decimal digits of an int that is not negative.
-/
import Derived.Test.YtpmlfchbihoflaaDoorRatRD
import Derived.Laws.BytesArg
namespace Go.Proofs.YtpmlfchbihoflaaDoor
open Go.RowKit Go.Sort
open Go.RowKit (Below)

/-- The text of one byte. -/
theorem conv1 (x : Int) (W : World) : (convert 65 9 (.slice (some ⟨W.heap.size, 0, none⟩) 1 1)).run Tryd.prog (W.alloc (.cells #[.int .u8 x] 5)) = .ok (.string (strOfNums [x])) (W.alloc (.cells #[.int .u8 x] 5)) :=
  run_convert_bytes_arg _ _ 5 (by kernel_rfl) (by kernel_rfl) _ 0 1 1 [x] rfl (by
    intro i hi
    obtain rfl : i = 0 := by omega
    simp [go_sem]) _ (by kernel_rfl)

/-- What comes ahead of the last digit. -/
def ahead (m : Nat) : List UInt8 := if m < 10 then [] else Lib.decDigits (m / 10)
theorem dig_last (m : Nat) : Lib.decDigits m = ahead m ++ (strOfNums [48 + (m : Int) % 10]).data.toList := by
  rw [Lib.decDigits]; unfold ahead
  have e : (strOfNums [48 + (m : Int) % 10]).data.toList = [UInt8.ofNat (48 + m % 10)] := by
    rw [strOfNums_data]
    have : (48 + (m : Int) % 10).toNat = 48 + m % 10 := by omega
    simp [this]
  rw [e]
  split
  · rw [Nat.mod_eq_of_lt (by assumption)]; rfl
  · rfl
theorem digits_len (u : Nat) (h : u ≤ 9223372036854775807) : (Lib.decDigits u).length ≤ 21 := by
  have h := Lib.itoa_length_le (u : Int) (by omega) (by omega)
  unfold Lib.itoa at h
  rw [if_neg (by omega)] at h
  simpa using h

set_option maxRecDepth 100000 in
set_option maxHeartbeats 800000 in
theorem digits_any (u : Nat) (w : World) (h2 : u ≤ 9223372036854775807) :
    Calls Tryd.prog 48 #[.int .i64 u] w fun e w' => e = .returned (.string ⟨(Lib.decDigits u).toArray⟩) ∧ Below w.heap.size w w' := by
  have cv := conv1
  have HL := Lib.hid (digits_len u h2)
  go_enter Tryd.func48, Tryd.ntmps48
  go_wp2
  go_loopw [0, 3] (fun a b wr => ∃ (m : Nat) (r : ByteArray), m ≤ 9223372036854775807 ∧ a = .int .i64 m ∧ b = .string r ∧ Hid (Lib.decDigits u = ahead m ++ r.data.toList) ∧ Below w.heap.size w wr) (fun a _ _ => (intOf a).toNat)
  case atStart => exact ⟨u, _, h2, rfl, rfl, dig_last u, (Below.refl _ _).alloc (Nat.le_refl _) _⟩
  case round =>
    obtain ⟨m, r, hm, rfl, rfl, HD, hb⟩ := hrel
    by_cases h9 : m ≤ 9
    · go_wp2
      go_ret
      refine ⟨?_, hb⟩
      have hd := HD.out
      unfold ahead at hd
      rw [if_pos (by omega)] at hd
      rw [hd]
      rfl
    · have hl : (strOfNums [48 + (m : Int) / 10 % 10]).size + r.size ≤ 100 := by
        have h1 := HL.out
        rw [HD.out, List.length_append] at h1
        have h2 : r.data.toList.length = r.size := by simp
        rw [strOfNums_size]; simp; omega
      have ca := fun w => add_run (strOfNums [48 + (m : Int) / 10 % 10]) r hl w
      have hd : Lib.decDigits u = ahead (m / 10) ++ (strOfNums [48 + (m : Int) / 10 % 10] ++ r).data.toList := by
        have h1 := HD.out
        have h2 := dig_last (m / 10)
        rw [h1]
        conv => lhs; unfold ahead
        rw [if_neg (by omega), h2, List.append_assoc]
        simp
      have HE := Lib.hid hd
      clear hd hl
      go_wp2
      go_roundw
      case rel => exact ⟨m / 10, _, by omega, by simp, rfl, HE.out, hb.alloc hb.size _⟩
      case measure => simp [intOf]; omega
end Go.Proofs.YtpmlfchbihoflaaDoor
