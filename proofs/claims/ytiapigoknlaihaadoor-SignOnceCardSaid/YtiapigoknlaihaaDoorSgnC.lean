/-
  The reference's Power; the small functions: isSecret, isExponent, isElement; Secret, Exponent, Element.
-/
import Derived.Test.YtiapigoknlaihaaDoorSgnB
namespace Go.Proofs.YtiapigoknlaihaaDoor
open Go.RowKit Go.Sort
open Go.RowKit (Below)
set_option linter.unusedVariables false
set_option linter.unusedSimpArgs false

theorem cast_mod {a b m c : Nat} (h : a * b % m = c) : ((a : Int) * b).tmod m = c := by
  rw [Int.tmod_eq_emod_of_nonneg (Int.mul_nonneg (by omega) (by omega)), ← h, Int.natCast_emod, Int.natCast_mul]
theorem cast_bd {a b m : Nat} (ha : a < m) (hb : b < m) (hm : m ≤ 2147483579) : 0 ≤ (a : Int) * b ∧ (a : Int) * b ≤ 9223372036854775807 := by
  have := prod_bd (x := a) (y := b) ⟨by omega, by omega⟩ ⟨by omega, by omega⟩
  omega
/-- The step of the powers: an odd exponent, an even one. -/
theorem st_odd {o a x m R : Nat} (hR : o * a ^ x % m = R) (h : x % 2 = 1) : (o * a % m) * (a * a % m) ^ (x / 2) % m = R := by rw [← hR]; exact pw_odd o a x m h
theorem st_even {o a x m R : Nat} (hR : o * a ^ x % m = R) (h : x % 2 = 0) : o * (a * a % m) ^ (x / 2) % m = R := by rw [← hR]; exact pw_even o a x m h

set_option maxRecDepth 100000 in
set_option maxHeartbeats 1000000 in
theorem rpower_any (a x m R : Nat) (ha : a < m) (hm : 1 < m) (hm2 : m ≤ 2147483579) (hx : x < 4611686018427387904) (hR : a ^ x % m = R) (w : World) :
    Calls Tryd.prog 23 #[.int .i64 a, .int .i64 x, .int .i64 m] w fun e w' => e = .returned (.int .i64 R) ∧ w = w' := by
  have HR := Lib.hid (show 1 * a ^ x % m = R by rw [Nat.one_mul]; exact hR)
  clear hR
  have hm0 : ((m : Int) == 0) = false := by rw [beq_eq_false_iff_ne]; omega
  have hm1 : ¬ (m : Int) = 0 := by omega
  go_enter Tryd.func23, Tryd.ntmps23
  go_wp2
  go_loop [0, 1, 7] (fun t0 t1 t7 => ∃ A X O : Nat, t0 = .int .i64 A ∧ t1 = .int .i64 X ∧ t7 = .int .i64 O ∧ A < m ∧ O < m ∧ X < 4611686018427387904 ∧ Hid (O * A ^ X % m = R)) (fun _ t1 _ => (intOf t1).toNat)
  case atStart => exact ⟨a, x, 1, rfl, rfl, rfl, ha, hm, hx, HR⟩
  case round =>
    obtain ⟨A, X, O, rfl, rfl, rfl, hA, hO, hX, HI⟩ := hrel
    clear HR ha hx
    by_cases h0 : X = 0
    · subst h0
      have HF := Lib.hid (show (O : Int) = R by have h := HI.out; rw [Nat.pow_zero, Nat.mul_one, Nat.mod_eq_of_lt hO] at h; omega)
      go_wp2
      go_ret
      exact ⟨ret_int HF.out, rfl⟩
    · have hpos : (0 : Int) < X := by omega
      have g1 : (X : Int).tdiv 2 = ((X / 2 : Nat) : Int) := by rw [Int.tdiv_eq_ediv_of_nonneg (by omega)]; omega
      have g2 : IntKind.i64.wrap ((X : Int) / 2) = ((X / 2 : Nat) : Int) := by rw [IntWalk.i64_in _ ⟨by omega, by omega⟩]; omega
      have g3 : IntKind.i64.wrap ((X / 2 : Nat) : Int) = ((X / 2 : Nat) : Int) := IntWalk.i64_in _ ⟨by omega, by omega⟩
      obtain ⟨l1, l2⟩ := cast_bd hA hA hm2
      have a1 : IntKind.i64.wrap ((A : Int) * A) = (A : Int) * A := IntWalk.i64_in _ ⟨by omega, by omega⟩
      have a2 := cast_mod (a := A) (b := A) (m := m) rfl
      have hA2 : A * A % m < m := Nat.mod_lt _ (by omega)
      by_cases hp : X % 2 = 1
      · have q1 : (X : Int).tmod 2 = 1 := by rw [Int.tmod_eq_emod_of_nonneg (by omega)]; omega
        have q2 : (X : Int) % 2 = 1 := by omega
        obtain ⟨l3, l4⟩ := cast_bd hO hA hm2
        have o1 : IntKind.i64.wrap ((O : Int) * A) = (O : Int) * A := IntWalk.i64_in _ ⟨by omega, by omega⟩
        have o2 := cast_mod (a := O) (b := A) (m := m) rfl
        have hO2 : O * A % m < m := Nat.mod_lt _ (by omega)
        have HN := Lib.hid (st_odd HI.out hp)
        clear HI l1 l2 l3 l4 h0 hp
        go_wp2
        go_round
        case rel => exact ⟨A * A % m, X / 2, O * A % m, rfl, rfl, rfl, hA2, hO2, by omega, HN⟩
        case measure => simp [intOf]; omega
      · have q1 : (X : Int).tmod 2 = 0 := by rw [Int.tmod_eq_emod_of_nonneg (by omega)]; omega
        have q2 : (X : Int) % 2 = 0 := by omega
        have HN := Lib.hid (st_even HI.out (by omega))
        clear HI l1 l2 h0 hp
        go_wp2
        go_round
        case rel => exact ⟨A * A % m, X / 2, O, rfl, rfl, rfl, hA2, hO, by omega, HN⟩
        case measure => simp [intOf]; omega

/-- A secret, an exponent. -/
def secB (n : Int) : Bool := decide (1 ≤ n) && decide (n < 1073741789)
def expB (n : Int) : Bool := decide (0 ≤ n) && decide (n < 1073741789)
theorem isSecret_any (n : Int) (b : Bool) (hb : secB n = b) (w : World) :
    Calls Tryd.prog 25 #[.int .i64 n] w fun e w' => e = .returned (.bool b) ∧ w = w' := by
  subst hb
  go_enter Tryd.func25, Tryd.ntmps25
  go_wp2
  all_goals go_ret
  all_goals exact ⟨ret_bool (by unfold secB; simp <;> omega), rfl⟩
theorem rsecret_any (n : Int) (b : Bool) (hb : secB n = b) (w : World) :
    Calls Tryd.prog 27 #[.int .i64 n] w fun e w' => e = .returned (.bool b) ∧ w = w' := by
  subst hb
  go_enter Tryd.func27, Tryd.ntmps27
  go_wp2
  all_goals go_ret
  all_goals exact ⟨ret_bool (by unfold secB; simp <;> omega), rfl⟩
theorem isExponent_any (n : Int) (b : Bool) (hb : expB n = b) (w : World) :
    Calls Tryd.prog 30 #[.int .i64 n] w fun e w' => e = .returned (.bool b) ∧ w = w' := by
  subst hb
  go_enter Tryd.func30, Tryd.ntmps30
  go_wp2
  all_goals go_ret
  all_goals exact ⟨ret_bool (by unfold expB; simp <;> omega), rfl⟩
theorem rexponent_any (n : Int) (b : Bool) (hb : expB n = b) (w : World) :
    Calls Tryd.prog 19 #[.int .i64 n] w fun e w' => e = .returned (.bool b) ∧ w = w' := by
  subst hb
  go_enter Tryd.func19, Tryd.ntmps19
  go_wp2
  all_goals go_ret
  all_goals exact ⟨ret_bool (by unfold expB; simp <;> omega), rfl⟩

/-- An element. -/
def eltB (n : Int) : Bool := decide (1 ≤ n) && decide (n < 2147483579) && decide (pwr n.toNat qq = 1)
theorem eltB_lo {n : Int} (h : n < 1) : eltB n = false := by unfold eltB; simp; omega
theorem eltB_hi {n : Int} (h : 2147483579 ≤ n) : eltB n = false := by unfold eltB; simp; omega
theorem eltB_in {n : Nat} (h1 : 1 ≤ n) (h2 : n < 2147483579) : ((pwr n qq : Nat) : Int) = 1 ↔ eltB n = true := by
  unfold eltB
  rw [Int.toNat_natCast]
  simp; omega
theorem power_q (b : Nat) (hb : b < 2147483579) (w : World) :
    Calls Tryd.prog 26 #[.int .i64 b, .int .i64 1073741789] w fun e w' => e = .returned (.int .i64 (pwr b qq : Nat)) ∧ Below w.heap.size w w' := power_any b qq hb (by decide) w
theorem rpower_q (b : Nat) (hb : b < 2147483579) (w : World) :
    Calls Tryd.prog 23 #[.int .i64 b, .int .i64 1073741789, .int .i64 2147483579] w fun e w' => e = .returned (.int .i64 (pwr b qq : Nat)) ∧ w = w' := rpower_any b qq pp (pwr b qq) hb (by decide) (by decide) (by decide) rfl w
set_option maxRecDepth 100000 in
set_option maxHeartbeats 1000000 in
theorem isElement_any (n : Int) (b : Bool) (hb : eltB n = b) (w : World) :
    Calls Tryd.prog 29 #[.int .i64 n] w fun e w' => e = .returned (.bool b) ∧ Below w.heap.size w w' := by
  by_cases h1 : n < 1
  · have HF := Lib.hid ((eltB_lo h1).symm.trans hb)
    clear hb
    go_enter Tryd.func29, Tryd.ntmps29
    go_wp2
    go_ret
    exact ⟨ret_bool HF.out, Below.refl _ _⟩
  by_cases h2 : 2147483579 ≤ n
  · have HF := Lib.hid ((eltB_hi h2).symm.trans hb)
    clear hb
    go_enter Tryd.func29, Tryd.ntmps29
    go_wp2
    go_ret
    exact ⟨ret_bool HF.out, Below.refl _ _⟩
  obtain ⟨m, rfl⟩ := Int.eq_ofNat_of_zero_le (show 0 ≤ n by omega)
  have HE := Lib.hid (eltB_in (n := m) (by omega) (by omega))
  have HP := Lib.hid (fun W => power_q m (by omega) W)
  rw [hb] at HE
  clear hb
  have l1 : (1 : Int) ≤ m := by omega
  have l2 : (m : Int) < 2147483579 := by omega
  clear h1 h2
  generalize pwr m qq = v at *
  by_cases hv : (v : Int) = 1
  · have HF := Lib.hid (HE.out.1 hv)
    have hq : ((v : Int) == 1) = true := by rw [beq_iff_eq]; exact hv
    clear hv HE
    go_enter Tryd.func29, Tryd.ntmps29
    go_wp2_with fail
    refine (HP.out _).mono ?_
    rintro e w1 ⟨rfl, hB⟩
    go_wp2_with fail
    go_ret
    exact ⟨ret_bool HF.out.symm, hB⟩
  · have HF := Lib.hid (show b = false by cases b with | false => rfl | true => exact absurd (HE.out.2 rfl) hv)
    have hq : ((v : Int) == 1) = false := by rw [beq_eq_false_iff_ne]; exact hv
    clear hv HE
    go_enter Tryd.func29, Tryd.ntmps29
    go_wp2_with fail
    refine (HP.out _).mono ?_
    rintro e w1 ⟨rfl, hB⟩
    go_wp2_with fail
    go_ret
    exact ⟨ret_bool HF.out.symm, hB⟩
set_option maxRecDepth 100000 in
set_option maxHeartbeats 1000000 in
theorem relement_any (n : Int) (b : Bool) (hb : eltB n = b) (w : World) :
    Calls Tryd.prog 24 #[.int .i64 n] w fun e w' => e = .returned (.bool b) ∧ w = w' := by
  by_cases h1 : n < 1
  · have HF := Lib.hid ((eltB_lo h1).symm.trans hb)
    clear hb
    go_enter Tryd.func24, Tryd.ntmps24
    go_wp2
    go_ret
    exact ⟨ret_bool HF.out, rfl⟩
  by_cases h2 : 2147483579 ≤ n
  · have HF := Lib.hid ((eltB_hi h2).symm.trans hb)
    clear hb
    go_enter Tryd.func24, Tryd.ntmps24
    go_wp2
    go_ret
    exact ⟨ret_bool HF.out, rfl⟩
  obtain ⟨m, rfl⟩ := Int.eq_ofNat_of_zero_le (show 0 ≤ n by omega)
  have HE := Lib.hid (eltB_in (n := m) (by omega) (by omega))
  have HP := Lib.hid (fun W => rpower_q m (by omega) W)
  rw [hb] at HE
  clear hb
  have l1 : (1 : Int) ≤ m := by omega
  have l2 : (m : Int) < 2147483579 := by omega
  clear h1 h2
  generalize pwr m qq = v at *
  by_cases hv : (v : Int) = 1
  · have HF := Lib.hid (HE.out.1 hv)
    have hq : ((v : Int) == 1) = true := by rw [beq_iff_eq]; exact hv
    clear hv HE
    go_enter Tryd.func24, Tryd.ntmps24
    go_wp2_with fail
    refine (HP.out _).mono ?_
    rintro e w1 ⟨rfl, rfl⟩
    go_wp2_with fail
    go_ret
    exact ⟨ret_bool HF.out.symm, rfl⟩
  · have HF := Lib.hid (show b = false by cases b with | false => rfl | true => exact absurd (HE.out.2 rfl) hv)
    have hq : ((v : Int) == 1) = false := by rw [beq_eq_false_iff_ne]; exact hv
    clear hv HE
    go_enter Tryd.func24, Tryd.ntmps24
    go_wp2_with fail
    refine (HP.out _).mono ?_
    rintro e w1 ⟨rfl, rfl⟩
    go_wp2_with fail
    go_ret
    exact ⟨ret_bool HF.out.symm, rfl⟩
end Go.Proofs.YtiapigoknlaihaaDoor
