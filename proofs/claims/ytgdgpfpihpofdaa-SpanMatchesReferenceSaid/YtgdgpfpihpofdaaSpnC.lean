/-
  The reference of package span: Valid, In, Minute, Few, Length, Same.
-/
import Derived.Test.YtgdgpfpihpofdaaGenB
import Derived.Test.YtgdgpfpihpofdaaSpnB
namespace Go.Proofs.Ytgdgpfpihpofdaa
open Go.RowKit Go.Sort
open Go.RowKit (Below)
set_option linter.unusedVariables false

theorem takeS {xs : List Spn} {k : Nat} (h : k < xs.length) : xs.take (k + 1) = xs.take k ++ [gdS xs k] := by
  rw [List.take_succ_eq_append_getElem h, gdS_at h]
theorem chk_take : ∀ {l : List Spn} {p : Int} (k : Nat), chk p l = true → chk p (l.take k) = true
  | [], _, k, _ => by simp [chk]
  | s :: r, p, 0, _ => rfl
  | s :: r, p, k + 1, h => by
    obtain ⟨h1, h2, h3, h4⟩ := chk_cons.1 h
    rw [List.take_succ_cons]
    exact chk_cons.2 ⟨h1, h2, h3, chk_take k h4⟩
theorem vld_not {xs : List Spn} {k : Nat} (h : k < xs.length) (hb : ¬ (lastU (-1) (xs.take k) < (gdS xs k).1 ∧ (gdS xs k).1 < (gdS xs k).2 ∧ (gdS xs k).2 ≤ 600001)) : false = vldS xs := by
  rw [Eq.comm, ← Bool.not_eq_true, vldS_iff]
  rintro ⟨_, hc⟩
  have h1 := chk_take (k + 1) hc
  rw [takeS h, chk_snoc] at h1
  exact hb h1.2

set_option maxRecDepth 100000 in
set_option maxHeartbeats 800000 in
theorem rvalid_any (A : Option Addr) (C : Nat) (xs : List Spn) (w : World) (hl : xs.length ≤ 9223372036854775807) (h : SlS w A xs) :
    Calls Try.prog 13 #[.slice A xs.length C] w fun e w' => e = .returned (.bool (vldS xs)) ∧ ∃ n, w' = w.drewN n := by
  by_cases h1000 : 1000 < xs.length
  · have hv := Lib.hid (show false = vldS xs by rw [Eq.comm, ← Bool.not_eq_true, vldS_iff]; omega)
    go_enter Try.func13, Try.ntmps13
    go_wp2
    go_ret
    exact ⟨ret_bool hv.out, 0, rfl⟩
  · have H := Lib.hid h
    clear h
    go_enter Try.func13, Try.ntmps13
    go_wp2
    go_loopw [3, 4] (fun t i wr => ∃ k : Nat, k ≤ xs.length ∧ i = .int .i64 k ∧ t = .int .i64 (lastU (-1) (xs.take k)) ∧ Hid (chk (-1) (xs.take k) = true) ∧ ∃ q, wr = w.drewN q) (fun _ i _ => xs.length - (intOf i).toNat)
    case atStart => exact ⟨0, Nat.zero_le _, rfl, rfl, rfl, 0, rfl⟩
    case round =>
      obtain ⟨k, hk, rfl, rfl, HK, q, rfl⟩ := hrel
      have HQ := Lib.hid (fun n => show (w.drewN q).drewN n = w.drewN (q + n) from World.drewN_drewN w q n)
      by_cases hlt : k < xs.length
      · obtain ⟨b, o, rfl, hc0, hd0⟩ := H.out k hlt
        have hc : (w.drewN q).cell? ⟨b, o + k * 2, none⟩ = some (.int .i64 (gdS xs k).1) := hc0
        have hd : (w.drewN q).cell? ⟨b, o + k * 2 + 1, none⟩ = some (.int .i64 (gdS xs k).2) := hd0
        have HB := Lib.hid (vld_not hlt)
        have HT := Lib.hid (takeS hlt)
        clear hc0 hd0
        have HS := Lib.hid (show (lastU (-1) (xs.take k) < (gdS xs k).1 ∧ (gdS xs k).1 < (gdS xs k).2 ∧ (gdS xs k).2 ≤ 600001) → chk (-1) (xs.take (k + 1)) = true ∧ lastU (-1) (xs.take (k + 1)) = (gdS xs k).2 by
          intro h; rw [HT.out]; exact ⟨chk_snoc.2 ⟨HK.out, h⟩, lastU_snoc _ _ _⟩)
        generalize lastU (-1) (xs.take k) = p at *
        generalize (gdS xs k).1 = f at *
        generalize (gdS xs k).2 = u at *
        generalize w.drewN q = wq at *
        clear HT
        by_cases c1 : f ≤ p
        · go_wp2_with fail
          go_quiet (fail)
          go_wp2
          go_ret
          exact ⟨ret_bool (HB.out (by omega)), _, HQ.out _⟩
        · have c1' : decide (f ≤ p) = false := by simpa using c1
          by_cases c2 : u ≤ f
          · go_wp2_with fail
            go_quiet (fail)
            go_wp2
            go_ret
            exact ⟨ret_bool (HB.out (by omega)), _, HQ.out _⟩
          · have c2' : decide (u ≤ f) = false := by simpa using c2
            by_cases c3 : 600001 < u
            · go_wp2_with fail
              go_quiet (fail)
              go_wp2
              go_ret
              exact ⟨ret_bool (HB.out (by omega)), _, HQ.out _⟩
            · have c3' : decide (600001 < u) = false := by simpa using c3
              have ⟨e1, e2⟩ := HS.out ⟨by omega, by omega, by omega⟩
              have E1 := Lib.hid e1
              have E2 := Lib.hid e2
              clear e1 e2 HS
              go_wp2_with fail
              go_quiet (fail)
              go_wp2
              go_roundw
              case rel => exact ⟨k + 1, by omega, by go_num, by rw [E2.out], E1, _, HQ.out _⟩
              case measure => simp [intOf]; omega
      · have hv := Lib.hid (show true = vldS xs by
          have := HK.out
          rw [List.take_of_length_le (by omega)] at this
          rw [Eq.comm, vldS_iff]; exact ⟨by omega, this⟩)
        go_wp2
        go_ret
        exact ⟨ret_bool hv.out, q, rfl⟩
end Go.Proofs.Ytgdgpfpihpofdaa
