/-
  Package span: Length, Has, Shift.
-/
import Derived.Test.YtgdgpfpihpofdaaSpnR
namespace Go.Proofs.Ytgdgpfpihpofdaa
open Go.RowKit Go.Sort
open Go.RowKit (Below)
set_option linter.unusedVariables false

set_option maxRecDepth 100000 in
set_option maxHeartbeats 800000 in
theorem length_any (A : Option Addr) (C : Nat) (xs : List Spn) (w : World) (hl : xs.length ≤ 9223372036854775807) (h : SlS w A xs) :
    Calls Try.prog 23 #[.slice A xs.length C] w fun e w' => e = .returned (.tuple #[.int .i64 (lenN xs), .int .i64 (lenE xs)]) ∧ Below w.heap.size w w' := by
  have H := Lib.hid h
  have HV := Lib.hid (valid_any A C xs w (by omega) h)
  clear h
  cases hv : vldS xs with
  | false =>
    rw [hv] at HV
    have e1 := Lib.hid (show 0 = lenN xs by simp [lenN, hv])
    have e2 := Lib.hid (show 1 = lenE xs by simp [lenE, hv])
    clear hv
    go_enter Try.func23, Try.ntmps23
    go_wp2_with fail
    refine HV.out.mono ?_
    rintro e w' ⟨rfl, hb⟩
    go_wp2
    go_ret2
    exact ⟨ret_two e1.out e2.out, hb⟩
  | true =>
    rw [hv] at HV
    have e1 := Lib.hid (show cntS xs = lenN xs by simp [lenN, hv])
    have e2 := Lib.hid (show 0 = lenE xs by simp [lenE, hv])
    have HC := Lib.hid (vldS_iff.1 hv).2
    have h1000 := (vldS_iff.1 hv).1
    clear hv
    go_enter Try.func23, Try.ntmps23
    go_wp2_with fail
    refine HV.out.mono ?_
    rintro e w' ⟨rfl, hb0⟩
    go_wp2_with fail
    go_loopw [4, 12] (fun t i wr => ∃ k : Nat, k ≤ xs.length ∧ i = .int .i64 k ∧ t = .int .i64 (cntS (xs.take k)) ∧ Below w.heap.size w wr) (fun _ i _ => xs.length - (intOf i).toNat)
    case atStart => exact ⟨0, Nat.zero_le _, rfl, rfl, hb0⟩
    case round =>
      clear hb0
      obtain ⟨k, hk, rfl, rfl, hb⟩ := hrel
      by_cases hlt : k < xs.length
      · obtain ⟨b, o, rfl, hc0, hd0⟩ := H.out k hlt
        have hbl : b < w.heap.size := block_lt hc0
        have hc : wr.cell? ⟨b, o + k * 2, none⟩ = some (.int .i64 (gdS xs k).1) := by rw [hb.cell hbl]; exact hc0
        have hd : wr.cell? ⟨b, o + k * 2 + 1, none⟩ = some (.int .i64 (gdS xs k).2) := by rw [hb.cell hbl]; exact hd0
        have hbd := cnt_bd (chk_take k HC.out) (by omega)
        obtain ⟨m1, m2, m3⟩ := chk_mem HC.out (gdS_mem hlt)
        have HT := Lib.hid (show cntS (xs.take (k + 1)) = cntS (xs.take k) + ((gdS xs k).2 - (gdS xs k).1) by rw [takeS hlt, cnt_snoc])
        have HBW := Lib.hid (fun o : Obj => hb.alloc hb.size o)
        clear hc0 hd0 hb
        generalize cntS (xs.take k) = p at *
        generalize (gdS xs k).1 = f at *
        generalize (gdS xs k).2 = u at *
        obtain ⟨hb1, hb2⟩ := hbd
        go_wp2
        go_roundw
        case rel => exact ⟨k + 1, by omega, by go_num, by rw [HT.out], HBW.out _⟩
        case measure => simp [intOf]; omega
      · have HE := Lib.hid (show cntS (xs.take k) = cntS xs by rw [List.take_of_length_le (by omega)])
        rw [HE.out, e1.out]
        go_wp2
        go_ret2
        exact ⟨ret_two rfl e2.out, hb⟩

/-- What Has gives. -/
def hasV (xs : List Spn) (m : Int) : Bool := vldS xs && minu m && hasS xs m
def hasE (xs : List Spn) (m : Int) : Int := if (vldS xs && minu m) = true then 0 else 1
theorem ret_be {a b : Bool} {c d : Int} (h : a = b) (h' : c = d) : Ending.returned (.tuple #[.bool a, .int .i64 c]) = .returned (.tuple #[.bool b, .int .i64 d]) := by rw [h, h']
set_option maxRecDepth 100000 in
set_option maxHeartbeats 800000 in
theorem hasf_any (A : Option Addr) (C : Nat) (xs : List Spn) (m : Int) (w : World) (hl : xs.length ≤ 9223372036854775807) (h : Ls w A C xs) :
    Calls Try.prog 25 #[.slice A xs.length C, .int .i64 m] w fun e w' => e = .returned (.tuple #[.bool (hasV xs m), .int .i64 (hasE xs m)]) ∧ Below w.heap.size w w' := by
  have H := Lib.hid h
  have HV := Lib.hid (valid_any A C xs w (by omega) h.sl)
  clear h
  cases hv : vldS xs with
  | false =>
    rw [hv] at HV
    have e1 := Lib.hid (show false = hasV xs m by simp [hasV, hv])
    have e2 := Lib.hid (show 1 = hasE xs m by simp [hasE, hv])
    clear hv
    go_enter Try.func25, Try.ntmps25
    go_wp2_with fail
    refine HV.out.mono ?_
    rintro e w' ⟨rfl, hb⟩
    go_wp2
    go_ret2
    exact ⟨ret_be e1.out e2.out, hb⟩
  | true =>
    rw [hv] at HV
    by_cases h1 : m < 0
    · have hmf : minu m = false := by rw [← Bool.not_eq_true, minu_iff]; omega
      have e1 := Lib.hid (show false = hasV xs m by simp [hasV, hmf])
      have e2 := Lib.hid (show 1 = hasE xs m by simp [hasE, hmf])
      clear hv hmf
      go_enter Try.func25, Try.ntmps25
      go_wp2_with fail
      refine HV.out.mono ?_
      rintro e w' ⟨rfl, hb⟩
      go_wp2
      go_ret2
      exact ⟨ret_be e1.out e2.out, hb⟩
    · have h1' : decide (m < 0) = false := by simpa using h1
      by_cases h2 : 600000 < m
      · have hmf : minu m = false := by rw [← Bool.not_eq_true, minu_iff]; omega
        have e1 := Lib.hid (show false = hasV xs m by simp [hasV, hmf])
        have e2 := Lib.hid (show 1 = hasE xs m by simp [hasE, hmf])
        clear hv hmf
        go_enter Try.func25, Try.ntmps25
        go_wp2_with fail
        refine HV.out.mono ?_
        rintro e w' ⟨rfl, hb⟩
        go_wp2
        go_ret2
        exact ⟨ret_be e1.out e2.out, hb⟩
      · have h2' : decide (600000 < m) = false := by simpa using h2
        have hmi : minu m = true := minu_iff.2 ⟨by omega, by omega⟩
        have e1 := Lib.hid (show hasS xs m = hasV xs m by simp [hasV, hv, hmi])
        have e2 := Lib.hid (show 0 = hasE xs m by simp [hasE, hv, hmi])
        have HC := Lib.hid (vldS_iff.1 hv).2
        clear hv hmi
        go_enter Try.func25, Try.ntmps25
        go_wp2_with fail
        refine HV.out.mono ?_
        rintro e w' ⟨rfl, hb⟩
        have hbx := Boxed.new w' 45 (.slice A xs.length C)
        have hb2 : Below w.heap.size w (w'.alloc (.cells #[.slice A xs.length C] 45)) := hb.alloc hb.size _
        have hsz := hb.size
        have HW := Lib.hid (wk_start H.out hb2 HC.out hbx)
        have HB := Lib.hid hb2
        clear hbx hb2 hb
        go_wp2_with fail
        refine (has_any w.heap.size w'.heap.size xs m _ HW.out).mono ?_
        rintro e w2 ⟨rfl, hg, -⟩
        have HB2 := Lib.hid (HB.out.grown hg HB.out.size (fun k e => by injection e with e; omega))
        clear hg
        go_wp2
        go_ret2
        exact ⟨ret_be e1.out e2.out, HB2.out⟩
end Go.Proofs.Ytgdgpfpihpofdaa
