/-
  Package span: Valid, the walk that goes forward, the closures.
-/
import Derived.Test.YtgdgpfpihpofdaaSpnD
import Derived.RangeFuncBox
import Derived.Maps.AppendAt
namespace Go.Proofs.Ytgdgpfpihpofdaa
open Go.RowKit Go.Sort
open Go.RowKit (Below)
set_option linter.unusedVariables false

theorem or_true' (a b : Bool) (w : World) : Calls Try.prog 31 #[.bool a, .bool b] w fun e w' => e = .returned (.bool (opO a b)) ∧ w = w' := by
  cases a <;> cases b
  all_goals
    go_enter Try.func31, Try.ntmps31
    go_wp2
    go_ret
    exact ⟨rfl, rfl⟩
theorem and_true' (a b : Bool) (w : World) : Calls Try.prog 33 #[.bool a, .bool b] w fun e w' => e = .returned (.bool (opA a b)) ∧ w = w' := by
  cases a <;> cases b
  all_goals
    go_enter Try.func33, Try.ntmps33
    go_wp2
    go_ret
    exact ⟨rfl, rfl⟩
theorem minus_true' (a b : Bool) (w : World) : Calls Try.prog 34 #[.bool a, .bool b] w fun e w' => e = .returned (.bool (opD a b)) ∧ w = w' := by
  cases a <;> cases b
  all_goals
    go_enter Try.func34, Try.ntmps34
    go_wp2
    go_ret
    exact ⟨rfl, rfl⟩

set_option maxRecDepth 100000 in
set_option maxHeartbeats 800000 in
theorem valid_any (A : Option Addr) (C : Nat) (xs : List Spn) (w : World) (hl : xs.length ≤ 9223372036854775807) (h : SlS w A xs) :
    Calls Try.prog 12 #[.slice A xs.length C] w fun e w' => e = .returned (.bool (vldS xs)) ∧ Below w.heap.size w w' := by
  by_cases h1000 : 1000 < xs.length
  · have hv := Lib.hid (show false = vldS xs by rw [Eq.comm, ← Bool.not_eq_true, vldS_iff]; omega)
    go_enter Try.func12, Try.ntmps12
    go_wp2
    go_ret
    exact ⟨ret_bool hv.out, Below.refl _ _⟩
  · have H := Lib.hid h
    clear h
    go_enter Try.func12, Try.ntmps12
    go_wp2
    go_loopw [3, 11] (fun t i wr => ∃ k : Nat, k ≤ xs.length ∧ i = .int .i64 k ∧ t = .int .i64 (lastU (-1) (xs.take k) + 1) ∧ Hid (chk (-1) (xs.take k) = true) ∧ Below w.heap.size w wr) (fun _ i _ => xs.length - (intOf i).toNat)
    case atStart => exact ⟨0, Nat.zero_le _, rfl, rfl, rfl, Below.refl _ _⟩
    case round =>
      obtain ⟨k, hk, rfl, rfl, HK, hb⟩ := hrel
      by_cases hlt : k < xs.length
      · obtain ⟨b, o, rfl, hc0, hd0⟩ := H.out k hlt
        have hbl : b < w.heap.size := block_lt hc0
        have hc : wr.cell? ⟨b, o + k * 2, none⟩ = some (.int .i64 (gdS xs k).1) := by rw [hb.cell hbl]; exact hc0
        have hd : wr.cell? ⟨b, o + k * 2 + 1, none⟩ = some (.int .i64 (gdS xs k).2) := by rw [hb.cell hbl]; exact hd0
        have HB := Lib.hid (vld_not hlt)
        have HT := Lib.hid (takeS hlt)
        have hu1 := lastU_up HK.out (show (-1 : Int) ≤ 600001 by omega)
        clear hc0 hd0
        have HS := Lib.hid (show (lastU (-1) (xs.take k) < (gdS xs k).1 ∧ (gdS xs k).1 < (gdS xs k).2 ∧ (gdS xs k).2 ≤ 600001) → chk (-1) (xs.take (k + 1)) = true ∧ lastU (-1) (xs.take (k + 1)) = (gdS xs k).2 by
          intro h; rw [HT.out]; exact ⟨chk_snoc.2 ⟨HK.out, h⟩, lastU_snoc _ _ _⟩)
        generalize lastU (-1) (xs.take k) = p at *
        generalize (gdS xs k).1 = f at *
        generalize (gdS xs k).2 = u at *
        obtain ⟨hu1, hu2⟩ := hu1
        have HBW := Lib.hid (fun o : Obj => hb.alloc hb.size o)
        clear HT
        by_cases c1 : f < p + 1
        · go_wp2
          go_ret
          exact ⟨ret_bool (HB.out (by omega)), HBW.out _⟩
        · have c1' : decide (f < p + 1) = false := by simpa using c1
          by_cases c2 : u ≤ f
          · go_wp2
            go_ret
            exact ⟨ret_bool (HB.out (by omega)), HBW.out _⟩
          · have c2' : decide (u ≤ f) = false := by simpa using c2
            by_cases c3 : 600001 < u
            · go_wp2
              go_ret
              exact ⟨ret_bool (HB.out (by omega)), HBW.out _⟩
            · have c3' : decide (600001 < u) = false := by simpa using c3
              have ⟨e1, e2⟩ := HS.out ⟨by omega, by omega, by omega⟩
              have E1 := Lib.hid e1
              have E2 := Lib.hid e2
              clear e1 e2 HS
              go_wp2
              go_roundw
              case rel => exact ⟨k + 1, by omega, by go_num, by rw [E2.out], E1, HBW.out _⟩
              case measure => simp [intOf]; omega
      · have hv := Lib.hid (show true = vldS xs by
          have := HK.out
          rw [List.take_of_length_le (by omega)] at this
          rw [Eq.comm, vldS_iff]; exact ⟨by omega, this⟩)
        go_wp2
        go_ret
        exact ⟨ret_bool hv.out, hb⟩
end Go.Proofs.Ytgdgpfpihpofdaa
