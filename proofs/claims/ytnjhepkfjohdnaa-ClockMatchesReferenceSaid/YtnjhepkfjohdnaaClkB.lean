/-
  Package clock: readings, by how much the true time may differ, the true times, on which side of a span they are.
-/
import Derived.Test.YtnjhepkfjohdnaaClkA
namespace Go.Proofs.Ytnjhepkfjohdnaa
open Go.RowKit Go.Sort
open Go.RowKit (Below)
set_option linter.unusedVariables false

theorem wrap_in {x : Int} (h1 : -9223372036854775808 ≤ x) (h2 : x ≤ 9223372036854775807) : IntKind.i64.wrap x = x := IntWalk.i64_in _ ⟨h1, h2⟩
theorem reads_1 (s e d r : Int) (w : World) (hv : vc s e d = false) :
    Calls Try.prog 21 #[.agg #[.int .i64 s, .int .i64 e, .int .i64 d], .int .i64 r] w fun e' w' => e' = .returned (.bool false) ∧ Below w.heap.size w w' := by
  have HV := Lib.hid hv
  clear hv
  go_enter Try.func21, Try.ntmps21
  go_wp2_with fail
  refine (rvalid_b s e d _ HV.out _).mono ?_
  rintro e' w' ⟨rfl, hb⟩
  obtain ⟨h1, h2⟩ := bcell hb
  have c0 : w'.cell? ⟨w.heap.size, 0, none⟩ = some (.int .i64 s) := by rw [h1 _ _ (by simp)]; simp [go_sem]
  have hw : Below w.heap.size w w' := ((Below.refl _ _).alloc (Nat.le_refl _) _).trans (hb.mono (by simp))
  clear h1 h2 hb
  go_wp2_with fail
  go_ret
  exact ⟨rfl, hw⟩
theorem reads_2 (s e d r : Int) (w : World) (hv : vc s e d = true) (hr : r < s) :
    Calls Try.prog 21 #[.agg #[.int .i64 s, .int .i64 e, .int .i64 d], .int .i64 r] w fun e' w' => e' = .returned (.bool false) ∧ Below w.heap.size w w' := by
  have HV := Lib.hid hv
  clear hv
  go_enter Try.func21, Try.ntmps21
  go_wp2_with fail
  refine (rvalid_b s e d _ HV.out _).mono ?_
  rintro e' w' ⟨rfl, hb⟩
  obtain ⟨h1, h2⟩ := bcell hb
  have c0 : w'.cell? ⟨w.heap.size, 0, none⟩ = some (.int .i64 s) := by rw [h1 _ _ (by simp)]; simp [go_sem]
  have hw : Below w.heap.size w w' := ((Below.refl _ _).alloc (Nat.le_refl _) _).trans (hb.mono (by simp))
  clear h1 h2 hb
  go_wp2_with fail
  go_ret
  exact ⟨rfl, hw⟩
theorem reads_3 (s e d r : Int) (w : World) (hv : vc s e d = true) (hr : s ≤ r) (b : Bool) (ht : tm r = b) :
    Calls Try.prog 21 #[.agg #[.int .i64 s, .int .i64 e, .int .i64 d], .int .i64 r] w fun e' w' => e' = .returned (.bool b) ∧ Below w.heap.size w w' := by
  have HV := Lib.hid hv
  clear hv
  have HT := Lib.hid ht
  clear ht
  go_enter Try.func21, Try.ntmps21
  go_wp2_with fail
  refine (rvalid_b s e d _ HV.out _).mono ?_
  rintro e' w' ⟨rfl, hb⟩
  obtain ⟨h1, h2⟩ := bcell hb
  have c0 : w'.cell? ⟨w.heap.size, 0, none⟩ = some (.int .i64 s) := by rw [h1 _ _ (by simp)]; simp [go_sem]
  have hw : Below w.heap.size w w' := ((Below.refl _ _).alloc (Nat.le_refl _) _).trans (hb.mono (by simp))
  clear h1 h2 hb
  go_wp2_with fail
  refine (rtime_b r _ HT.out _).mono ?_
  rintro e' w' ⟨rfl, rfl⟩
  go_wp2_with fail
  go_ret
  exact ⟨rfl, hw⟩
theorem reads_b (s e d r : Int) (b : Bool) (h : rds s e d r = b) (w : World) :
    Calls Try.prog 21 #[.agg #[.int .i64 s, .int .i64 e, .int .i64 d], .int .i64 r] w fun e' w' => e' = .returned (.bool b) ∧ Below w.heap.size w w' := by
  subst h
  cases hv : vc s e d with
  | false => rw [show rds s e d r = false by simp [rds, hv]]; exact reads_1 s e d r w hv
  | true =>
    by_cases hr : s ≤ r
    · rw [show rds s e d r = tm r by simp [rds, hv, hr]]; exact reads_3 s e d r w hv hr _ rfl
    · rw [show rds s e d r = false by simp [rds, hv, hr]]; exact reads_2 s e d r w hv (by omega)
theorem fvalid_1 (s e d r : Int) (w : World) (hv : vc s e d = false) :
    Calls Try.prog 28 #[.agg #[.int .i64 s, .int .i64 e, .int .i64 d, .int .i64 r]] w fun e' w' => e' = .returned (.bool false) ∧ Below w.heap.size w w' := by
  have HV := Lib.hid hv
  clear hv
  go_enter Try.func28, Try.ntmps28
  go_wp2_with fail
  refine (valid_b s e d _ HV.out _).mono ?_
  rintro e' w' ⟨rfl, hb⟩
  obtain ⟨h1, h2⟩ := bcell hb
  have c0 : w'.cell? ⟨w.heap.size, 0, none⟩ = some (.int .i64 s) := by rw [h1 _ _ (by simp)]; simp [go_sem]
  have c3 : w'.cell? ⟨w.heap.size, 3, none⟩ = some (.int .i64 r) := by rw [h1 _ _ (by simp)]; simp [go_sem]
  have hw : Below w.heap.size w w' := ((Below.refl _ _).alloc (Nat.le_refl _) _).trans (hb.mono (by simp))
  clear h1 h2 hb
  go_wp2_with fail
  go_ret
  exact ⟨rfl, hw⟩
theorem fvalid_2 (s e d r : Int) (w : World) (hv : vc s e d = true) (ht : tm r = false) :
    Calls Try.prog 28 #[.agg #[.int .i64 s, .int .i64 e, .int .i64 d, .int .i64 r]] w fun e' w' => e' = .returned (.bool false) ∧ Below w.heap.size w w' := by
  have HV := Lib.hid hv
  clear hv
  have HT := Lib.hid ht
  clear ht
  go_enter Try.func28, Try.ntmps28
  go_wp2_with fail
  refine (valid_b s e d _ HV.out _).mono ?_
  rintro e' w' ⟨rfl, hb⟩
  obtain ⟨h1, h2⟩ := bcell hb
  have c0 : w'.cell? ⟨w.heap.size, 0, none⟩ = some (.int .i64 s) := by rw [h1 _ _ (by simp)]; simp [go_sem]
  have c3 : w'.cell? ⟨w.heap.size, 3, none⟩ = some (.int .i64 r) := by rw [h1 _ _ (by simp)]; simp [go_sem]
  have hw : Below w.heap.size w w' := ((Below.refl _ _).alloc (Nat.le_refl _) _).trans (hb.mono (by simp))
  clear h1 h2 hb
  go_wp2_with fail
  refine (isTime_b r _ HT.out _).mono ?_
  rintro e' w' ⟨rfl, rfl⟩
  go_wp2_with fail
  go_ret
  exact ⟨rfl, hw⟩
theorem fvalid_3 (s e d r : Int) (w : World) (hv : vc s e d = true) (ht : tm r = true) (b : Bool) (hr : decide (s ≤ r) = b) :
    Calls Try.prog 28 #[.agg #[.int .i64 s, .int .i64 e, .int .i64 d, .int .i64 r]] w fun e' w' => e' = .returned (.bool b) ∧ Below w.heap.size w w' := by
  have HV := Lib.hid hv
  clear hv
  have HT := Lib.hid ht
  clear ht
  subst hr
  go_enter Try.func28, Try.ntmps28
  go_wp2_with fail
  refine (valid_b s e d _ HV.out _).mono ?_
  rintro e' w' ⟨rfl, hb⟩
  obtain ⟨h1, h2⟩ := bcell hb
  have c0 : w'.cell? ⟨w.heap.size, 0, none⟩ = some (.int .i64 s) := by rw [h1 _ _ (by simp)]; simp [go_sem]
  have c3 : w'.cell? ⟨w.heap.size, 3, none⟩ = some (.int .i64 r) := by rw [h1 _ _ (by simp)]; simp [go_sem]
  have hw : Below w.heap.size w w' := ((Below.refl _ _).alloc (Nat.le_refl _) _).trans (hb.mono (by simp))
  clear h1 h2 hb
  go_wp2_with fail
  refine (isTime_b r _ HT.out _).mono ?_
  rintro e' w' ⟨rfl, rfl⟩
  go_wp2_with fail
  go_ret
  exact ⟨rfl, hw⟩
theorem fvalid_b (s e d r : Int) (b : Bool) (h : rds s e d r = b) (w : World) :
    Calls Try.prog 28 #[.agg #[.int .i64 s, .int .i64 e, .int .i64 d, .int .i64 r]] w fun e' w' => e' = .returned (.bool b) ∧ Below w.heap.size w w' := by
  subst h
  cases hv : vc s e d with
  | false => rw [show rds s e d r = false by simp [rds, hv]]; exact fvalid_1 s e d r w hv
  | true =>
    cases ht : tm r with
    | true => rw [show rds s e d r = decide (s ≤ r) by simp [rds, hv, ht]]; exact fvalid_3 s e d r w hv ht _ rfl
    | false => rw [show rds s e d r = false by simp [rds, hv, ht]]; exact fvalid_2 s e d r w hv ht

/-- By how much the true time may differ from a reading. -/
def off (s e d r : Int) : Int := e + ((r - s) * d + 999) / 1000
theorem part_le {s e d r : Int} (h : rds s e d r = true) : 0 ≤ (r - s) * d ∧ (r - s) * d ≤ 60000000 := by
  obtain ⟨hv, hr, ht⟩ := rds_iff.1 h
  obtain ⟨hs, he, hd⟩ := vc_iff.1 hv
  have ht' := tm_iff.1 ht
  refine ⟨Int.mul_nonneg (by omega) hd.1, ?_⟩
  have h1 : (r - s) * d ≤ 600000 * 100 := Int.mul_le_mul (by omega) hd.2 hd.1 (by omega)
  omega
theorem off_le {s e d r : Int} (h : rds s e d r = true) : 0 ≤ off s e d r ∧ off s e d r ≤ 61001 := by
  obtain ⟨h1, h2⟩ := part_le h
  obtain ⟨hv, hr, ht⟩ := rds_iff.1 h
  obtain ⟨hs, he, hd⟩ := vc_iff.1 hv
  unfold off
  generalize (r - s) * d = G at *
  omega
theorem away_any (s e d r : Int) (h : rds s e d r = true) (w : World) :
    Calls Try.prog 35 #[.agg #[.int .i64 s, .int .i64 e, .int .i64 d, .int .i64 r]] w fun e' w' => e' = .returned (.int .i64 (off s e d r)) ∧ Below w.heap.size w w' := by
  obtain ⟨h1, h2⟩ := part_le h
  obtain ⟨hv, hr, ht⟩ := rds_iff.1 h
  obtain ⟨hs, he, hd⟩ := vc_iff.1 hv
  have ht' := tm_iff.1 ht
  clear h hv ht
  go_enter Try.func35, Try.ntmps35
  go_wp2_with fail
  go_ret
  exact ⟨ret_int (by unfold off; omega), (Below.refl _ _).alloc (Nat.le_refl _) _⟩
end Go.Proofs.Ytnjhepkfjohdnaa
