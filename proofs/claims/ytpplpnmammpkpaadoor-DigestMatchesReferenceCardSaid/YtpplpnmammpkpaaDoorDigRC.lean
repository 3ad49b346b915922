/-
  The reference of package digest: first, up.
-/
import Derived.Test.YtpplpnmammpkpaaDoorDigRB
import Derived.Test.YtpplpnmammpkpaaDoorDigF
namespace Go.Proofs.YtpplpnmammpkpaaDoor
open Go.RowKit Go.Sort
open Go.RowKit (Below)
set_option linter.unusedVariables false
set_option linter.unusedSimpArgs false

set_option maxRecDepth 100000 in
set_option maxHeartbeats 800000 in
theorem rfirst_any (A : Option Addr) (C : Nat) (xs : List Int) (w : World) (hl : xs.length ≤ 2000) (hu : ∀ x ∈ xs, U64 x) (h : Sk .u64 w A xs) :
    Calls Tryd.prog 31 #[.slice A xs.length C] w (Mkk .u64 w (xs.map leafN)) := by
  obtain ⟨i0, hi0, hz0, hz1, hz2⟩ := info_parts u64_info
  have H := Lib.hid h
  have HU := Lib.hid (gd_u hu)
  clear h hu
  go_enter Tryd.func31, Tryd.ntmps31
  go_wp2_with fail
  go_loopw [3, 4] (fun v i wr => ∃ k : Nat, k ≤ xs.length ∧ i = .int .i64 k ∧ wr.ownsRow w.heap.size 25 1 v k (((xs.take k).map leafN).map (Value.int .u64)) ∧ Below w.heap.size w wr) (fun _ i _ => xs.length - (intOf i).toNat)
  case atStart => exact ⟨0, Nat.zero_le _, rfl, World.ownsRow_nil _ _ _ _, Below.refl _ _⟩
  case round =>
    obtain ⟨k, hk, rfl, hown, hb⟩ := hrel
    by_cases hlt : k < xs.length
    · obtain ⟨b, o, rfl, hc0⟩ := H.out k hlt
      have hc : wr.cell? ⟨b, o + k, none⟩ = some (.int .u64 (gd xs k)) := cell_on hb (block_lt hc0) hc0
      have HT := Lib.hid (show ((xs.take k).map leafN).map (Value.int .u64) ++ [.int .u64 (leafN (gd xs k))] = ((xs.take (k + 1)).map leafN).map (Value.int .u64) by rw [map_take hlt, snoc_k])
      have HUk := Lib.hid (HU.out k)
      clear hc0
      generalize gd xs k = x at *
      go_wp2_with fail
      refine (rleaf_any x HUk.out _).mono ?_
      rintro e w1 ⟨rfl, hb1⟩
      have ownZ := own_below hown hb1
      have bZ := on_below hb hb1
      have hsz := bZ.size
      generalize leafN x = y at *
      clear hb hb1 hown
      go_wp2_with (at_builtin; (refine wpList_append_own _ rfl (.tmp 11) (.tmp 17) 24 rfl w.heap.size 25 i0 (.int .u64 0) 1 8 Tryd.underlying24 hi0 hz0 hz1 hz2 rfl (by decide) _ _ _ rfl (ownZ.alloc _) ⟨w1.heap.size, 0, none⟩ 1 1 [.int .u64 y] rfl rfl (new_k _ _ _) one_k (by unfold maxLen; omega) (by omega) (by have := bZ.size; simp <;> omega) ?_; intro va wa owna gra nna; clear nna; have ba := app_below (bZ.alloc (by have := bZ.size; omega) _) (by have := bZ.size; simp <;> omega) (ownZ.alloc _) (Nat.le_refl _) gra; clear gra))
      rw [HT.out] at owna
      go_roundw
      case rel => exact ⟨k + 1, by omega, by go_num, owna, ba⟩
      case measure => simp [intOf]; omega
    · rw [List.take_of_length_le (by omega)] at hown
      obtain ⟨A', C', rfl, h1, h2, hs⟩ := own_sk hown
      go_wp2
      go_ret
      exact ⟨A', C', rfl, h1, h2, hs, hb⟩

theorem up_step {xs : List Int} {k : Nat} (h : 2 * k + 1 = xs.length) : (up xs).take (k + 1) = (up xs).take k ++ [gd xs (2 * k)] := by
  rw [take_k (by rw [up_len]; omega), up_last h]
set_option maxRecDepth 100000 in
set_option maxHeartbeats 2000000 in
theorem rup_any (A : Option Addr) (C : Nat) (xs : List Int) (w : World) (hl : xs.length ≤ 2000) (hu : ∀ x ∈ xs, U64 x) (h : Sk .u64 w A xs) :
    Calls Tryd.prog 32 #[.slice A xs.length C] w (Mkk .u64 w (up xs)) := by
  obtain ⟨i0, hi0, hz0, hz1, hz2⟩ := info_parts u64_info
  have H := Lib.hid h
  have HU := Lib.hid (gd_u hu)
  clear h hu
  go_enter Tryd.func32, Tryd.ntmps32
  go_wp2_with fail
  go_loopw [3, 4] (fun v i wr => ∃ k : Nat, k ≤ (xs.length + 1) / 2 ∧ i = .int .i64 (2 * (k : Int)) ∧ wr.ownsRow w.heap.size 25 1 v k (((up xs).take k).map (Value.int .u64)) ∧ Below w.heap.size w wr) (fun _ i _ => xs.length + 2 - (intOf i).toNat)
  case atStart => exact ⟨0, Nat.zero_le _, rfl, World.ownsRow_nil _ _ _ _, Below.refl _ _⟩
  case round =>
    obtain ⟨k, hk, rfl, hown, hb⟩ := hrel
    by_cases hlt : 2 * k < xs.length
    · obtain ⟨b, o, rfl, hc0⟩ := H.out (2 * k) hlt
      have hbl : b < w.heap.size := block_lt hc0
      have x0 : wr.cell? ⟨b, o + 2 * k, none⟩ = some (.int .u64 (gd xs (2 * k))) := cell_on hb hbl hc0
      have U0 := Lib.hid (HU.out (2 * k))
      have hsq := hb.size
      have ie : 2 * (k : Int) < (xs.length : Int) := by omega
      have ih : (2 * (k : Int)).toNat = 2 * k := by omega
      by_cases hp : 2 * k + 1 < xs.length
      · have hd0 := sk_here H.out (j := 2 * k + 1) hp
        have x1 : wr.cell? ⟨b, o + (2 * k + 1), none⟩ = some (.int .u64 (gd xs (2 * k + 1))) := cell_on hb hbl hd0
        have U1 := Lib.hid (HU.out (2 * k + 1))
        have HT := Lib.hid (show ((up xs).take k).map (Value.int .u64) ++ [.int .u64 (pairN (gd xs (2 * k)) (gd xs (2 * k + 1)))] = ((up xs).take (k + 1)).map (Value.int .u64) by rw [up_take hp, snoc_k])
        obtain ⟨OA, OC, rfl, -⟩ := form_own hown
        have ig : 2 * (k : Int) + 1 < (xs.length : Int) := by omega
        clear hc0 hd0
        generalize gd xs (2 * k) = x at *
        generalize gd xs (2 * k + 1) = y at *
        have HCP := Lib.hid (fun W => rpair_any x y U0.out U1.out W)
        generalize pairN x y = z at *
        have ia : IntKind.i64.wrap (2 * (k : Int)) = 2 * (k : Int) := IntWalk.i64_in _ ⟨by omega, by omega⟩
        have ib : IntKind.i64.wrap (2 * (k : Int) + 1) = 2 * (k : Int) + 1 := IntWalk.i64_in _ ⟨by omega, by omega⟩
        have ic : (0 : Int) ≤ 2 * (k : Int) := by omega
        have id' : (0 : Int) ≤ 2 * (k : Int) + 1 := by omega
        have ii : (2 * (k : Int) + 1).toNat = 2 * k + 1 := by omega
        go_wp2_with fail
        go_region_held3 (fun W' => W'.cell? ⟨b, o + 2 * k, none⟩ = some (.int .u64 x) ∧ W'.cell? ⟨b, o + (2 * k + 1), none⟩ = some (.int .u64 y))
          (first
            | go_keep
            | exact ⟨x0, x1⟩
            | exact ⟨cell_on hbw hbl x0, cell_on hbw hbl x1⟩
            | exact ⟨cell_on hbv hbl x0, cell_on hbv hbl x1⟩)
          (first
            | (go_at_call 36
               (with_reducible refine (HCP.out _).mono ?_)
               rintro e w1 ⟨rfl, hb1⟩
               have hbw : Below w.heap.size wr w1 := (undrew_b hb1).mono hsq
               have hown0 := own_below hown.drew hb1)
            | (refine step_append_lies _ (by rfl) _ _ _ (by rfl) w.heap.size 25 i0 _ 1 8 Tryd.underlying24 hi0 hz0 hz1 hz2 rfl (by omega) (.slice OA k OC) k (((up xs).take k).map (Value.int .u64)) (by rfl) (hown0.alloc _) ⟨w1.heap.size, 0, none⟩ 1 1 [.int .u64 z] (by rfl) (by rfl) (new_k w1 z _) one_k (by omega) (by unfold maxLen; omega) (by omega) (by have := hbw.size; simp; omega) (w1.heap.size + 1) (by simp) ?_; intro gg cap w5 hown1 hgrow hat hlt5; have hbv : Below w.heap.size wr w5 := app_below (hbw.alloc (by have := hbw.size; omega) _) (by have := hbw.size; simp; omega) (hown0.alloc _) (Nat.le_refl _) hgrow))
        have hbv : Below w.heap.size wr w5 := by assumption
        have hB := hb.trans hbv
        clear hbv hb hown ia ib ic id' ie ig ih ii x0 x1 hbw hb1 hown0 hgrow hat hlt5 HCP
        go_wp2_with fail
        rw [HT.out] at hown1
        go_roundw
        case rel => exact ⟨k + 1, by omega, by go_num, hown1, hB⟩
        case measure => simp [intOf]; omega
      · have HT := Lib.hid (show ((up xs).take k).map (Value.int .u64) ++ [.int .u64 (gd xs (2 * k))] = ((up xs).take (k + 1)).map (Value.int .u64) by rw [up_step (by omega), snoc_k])
        have ownZ := hown
        have bZ := hb
        have hg : decide (2 * (k : Int) + 1 < (xs.length : Int)) = false := by rw [decide_eq_false_iff_not]; omega
        clear hc0 hown hb
        generalize gd xs (2 * k) = x at *
        go_wp2_with (at_builtin; (refine wpList_append_own _ rfl (.tmp 29) (.tmp 34) 24 rfl w.heap.size 25 i0 (.int .u64 0) 1 8 Tryd.underlying24 hi0 hz0 hz1 hz2 rfl (by decide) _ _ _ rfl (ownZ.alloc _) ⟨wr.heap.size, 0, none⟩ 1 1 [.int .u64 x] rfl rfl (new_k _ _ _) one_k (by unfold maxLen; omega) (by omega) (by have := bZ.size; simp <;> omega) ?_; intro va wa owna gra nna; clear nna; have ba := app_below (bZ.alloc (by have := bZ.size; omega) _) (by have := bZ.size; simp <;> omega) (ownZ.alloc _) (Nat.le_refl _) gra; clear gra))
        rw [HT.out] at owna
        go_roundw
        case rel => exact ⟨k + 1, by omega, by go_num, owna, ba⟩
        case measure => simp [intOf]; omega
    · rw [List.take_of_length_le (by rw [up_len]; omega)] at hown
      obtain ⟨A', C', rfl, h1, h2, hs⟩ := own_sk hown
      go_wp2
      go_ret
      exact ⟨A', C', rfl, h1, h2, hs, hb⟩
end Go.Proofs.YtpplpnmammpkpaaDoor
