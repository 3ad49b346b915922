/-
  Package digest: lowest, above.
-/
import Derived.Test.YtpplpnmammpkpaaDoorDigD
import Derived.Deep.AppendLies
namespace Go.Proofs.YtpplpnmammpkpaaDoor
open Go.RowKit Go.Sort
open Go.RowKit (Below)
set_option linter.unusedVariables false

theorem u64_info : (Tryd.prog.info? 25).map (fun i => (i.zero, i.size, i.bytes)) = some (some (.int .u64 0), 1, 8) := by kernel_rfl
theorem sk_one {k : IntKind} (w : World) (x : Int) (t : TypeId) : Sk k (w.alloc (.cells #[.int k x] t)) (some ⟨w.heap.size, 0, none⟩) [x] := sk_row [x] (heap_alloc_new w _)
theorem sk_two {k : IntKind} (w : World) (x y : Int) (t : TypeId) : Sk k (w.alloc (.cells #[.int k x, .int k y] t)) (some ⟨w.heap.size, 0, none⟩) [x, y] := sk_row [x, y] (heap_alloc_new w _)
theorem map_take {f : Int → Int} {xs : List Int} {k : Nat} (h : k < xs.length) : (xs.take (k + 1)).map f = (xs.take k).map f ++ [f (gd xs k)] := by rw [take_k h, List.map_append]; rfl

set_option maxRecDepth 100000 in
set_option maxHeartbeats 800000 in
theorem lowest_any (A : Option Addr) (C : Nat) (xs : List Int) (w : World) (hl : xs.length ≤ 2000) (hu : ∀ x ∈ xs, U64 x) (h : Sk .u64 w A xs) :
    Calls Tryd.prog 28 #[.slice A xs.length C] w (Mkk .u64 w (xs.map leafN)) := by
  obtain ⟨i0, hi0, hz0, hz1, hz2⟩ := info_parts u64_info
  have H := Lib.hid h
  have HU := Lib.hid (gd_u hu)
  clear h hu
  go_enter Tryd.func28, Tryd.ntmps28
  go_wp2_with fail
  go_loopw [3, 8] (fun v i wr => ∃ k : Nat, k ≤ xs.length ∧ i = .int .i64 k ∧ wr.ownsRow w.heap.size 25 1 v k (((xs.take k).map leafN).map (Value.int .u64)) ∧ Below w.heap.size w wr) (fun _ i _ => xs.length - (intOf i).toNat)
  case atStart => exact ⟨0, Nat.zero_le _, rfl, World.ownsRow_nil _ _ _ _, Below.refl _ _⟩
  case round =>
    obtain ⟨k, hk, rfl, hown, hb⟩ := hrel
    by_cases hlt : k < xs.length
    · obtain ⟨b, o, rfl, hc0⟩ := H.out k hlt
      have hbl : b < w.heap.size := block_lt hc0
      have hc : wr.cell? ⟨b, o + k, none⟩ = some (.int .u64 (gd xs k)) := by rw [hb.cell hbl]; exact hc0
      have HT := Lib.hid (show ((xs.take k).map leafN).map (Value.int .u64) ++ [.int .u64 (leafN (gd xs k))] = ((xs.take (k + 1)).map leafN).map (Value.int .u64) by rw [map_take hlt, snoc_k])
      have HUk := Lib.hid (HU.out k)
      clear hc0
      generalize gd xs k = x at *
      go_wp2_with fail
      refine (node1_any 0 x (some ⟨wr.heap.size, 0, none⟩) 1 _ HUk.out (sk_one wr x _)).mono ?_
      rintro e w1 ⟨rfl, hb1⟩
      have hb2 : Below wr.heap.size wr w1 := ((Below.refl _ _).alloc (Nat.le_refl _) _).trans (hb1.mono (by simp))
      have hown1 := own_below hown hb2
      have hB := on_below hb hb2
      have hsz := hB.size
      have HLf := Lib.hid (show dig (0 :: be8 x) = leafN x from rfl)
      rw [HLf.out]
      clear hb hb1 hb2 hown
      go_wp2_with (at_builtin; refine wpList_append_own _ rfl (.tmp 12) (.tmp 16) 24 rfl w.heap.size 25 i0 (.int .u64 0) 1 8 Tryd.underlying24 hi0 hz0 hz1 hz2 rfl (by decide) _ _ _ rfl (hown1.alloc _) ⟨w1.heap.size, 0, none⟩ 1 1 [.int .u64 (leafN x)] rfl rfl (new_k _ _ _) one_k (by unfold maxLen; omega) (by omega) (by simp; omega) ?_; intro v2 w2 hown2 hgr2 hz2'; clear hz2'; have hb2 := app_below (hB.alloc hsz _) (by simp; omega) (hown1.alloc _) (Nat.le_refl _) hgr2)
      rw [HT.out] at hown2
      go_roundw
      case rel => exact ⟨k + 1, by omega, by go_num, hown2, hb2⟩
      case measure => simp [intOf]; omega
    · rw [List.take_of_length_le (by omega)] at hown
      obtain ⟨A', C', rfl, h1, h2, hs⟩ := own_sk hown
      go_wp2
      go_ret
      exact ⟨A', C', rfl, h1, h2, hs, hb⟩
end Go.Proofs.YtpplpnmammpkpaaDoor
