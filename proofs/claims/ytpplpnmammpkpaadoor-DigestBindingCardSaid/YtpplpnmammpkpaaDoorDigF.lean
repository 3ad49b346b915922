/-
  Package digest: above.
-/
import Derived.Test.YtpplpnmammpkpaaDoorDigE
namespace Go.Proofs.YtpplpnmammpkpaaDoor
open Go.RowKit Go.Sort
open Go.RowKit (Below)
set_option linter.unusedVariables false

theorem up_take {xs : List Int} {k : Nat} (h : 2 * k + 1 < xs.length) : (up xs).take (k + 1) = (up xs).take k ++ [pairN (gd xs (2 * k)) (gd xs (2 * k + 1))] := by
  rw [take_k (by rw [up_len]; omega), up_at h]
theorem up_even {xs : List Int} (h : xs.length % 2 = 0) : (up xs).take (xs.length / 2) = up xs := List.take_of_length_le (by rw [up_len]; omega)
theorem up_odd {xs : List Int} (h : xs.length % 2 = 1) : (up xs).take (xs.length / 2) ++ [gd xs (xs.length - 1)] = up xs := by
  have e := up_last (l := xs) (k := xs.length / 2) (by omega)
  rw [show 2 * (xs.length / 2) = xs.length - 1 by omega] at e
  rw [← e, ← take_k (by rw [up_len]; omega)]
  exact List.take_of_length_le (by rw [up_len]; omega)
theorem undrew {w w' : World} {r : Option Nat} (h : w.drew.grownBy w' r) : w.grownBy w' r := (show w.grownBy w.drew r from ⟨rfl, rfl, rfl, Nat.le_refl _, fun _ _ _ => rfl⟩).trans h
theorem far_own {w : World} {base : Nat} {e : TypeId} {v : Value} {n b size : Nat} {xs : List Value} (h : w.ownsRow base e size v n xs) (hb : b < base) : some b ≠ v.ownBlock := by
  intro he
  have := (h.lt b he.symm).1
  omega
theorem undrew_b {B : Nat} {w w' : World} (h : Below B w.drew w') : Below B w w' := (show Below B w w.drew from ⟨rfl, rfl, rfl, Nat.le_refl _, fun _ _ => rfl⟩).trans h
theorem sk_drew {k : IntKind} {w : World} {A : Option Addr} {xs : List Int} (h : Sk k w A xs) : Sk k w.drew A xs := h
theorem cell_on {B : Nat} {w w' : World} {b k : Nat} {v : Value} (h : Below B w w') (hb : b < B) (hc : w.cell? ⟨b, k, none⟩ = some v) : w'.cell? ⟨b, k, none⟩ = some v := by rw [h.cell (p := ⟨b, k, none⟩) hb]; exact hc

set_option maxRecDepth 100000 in
set_option maxHeartbeats 2000000 in
theorem above_any (A : Option Addr) (C : Nat) (xs : List Int) (w : World) (hl : xs.length ≤ 2000) (hu : ∀ x ∈ xs, U64 x) (h : Sk .u64 w A xs) :
    Calls Tryd.prog 29 #[.slice A xs.length C] w (Mkk .u64 w (up xs)) := by
  obtain ⟨i0, hi0, hz0, hz1, hz2⟩ := info_parts u64_info
  have H := Lib.hid h
  have HU := Lib.hid (gd_u hu)
  clear h hu
  go_enter Tryd.func29, Tryd.ntmps29
  go_wp2_with fail
  go_loopw [3, 8] (fun v i wr => ∃ k : Nat, k ≤ xs.length / 2 ∧ i = .int .i64 k ∧ wr.ownsRow w.heap.size 25 1 v k (((up xs).take k).map (Value.int .u64)) ∧ Below w.heap.size w wr) (fun _ i _ => xs.length - (intOf i).toNat)
  case atStart => exact ⟨0, Nat.zero_le _, rfl, World.ownsRow_nil _ _ _ _, Below.refl _ _⟩
  case round =>
    obtain ⟨k, hk, rfl, hown, hb⟩ := hrel
    by_cases hlt : k < xs.length / 2
    · obtain ⟨b, o, rfl, hc0⟩ := H.out (2 * k) (by omega)
      have hd0 := sk_here H.out (j := 2 * k + 1) (by omega)
      have hbl : b < w.heap.size := block_lt hc0
      have x0 : wr.cell? ⟨b, o + 2 * k, none⟩ = some (.int .u64 (gd xs (2 * k))) := cell_on hb hbl hc0
      have x1 : wr.cell? ⟨b, o + (2 * k + 1), none⟩ = some (.int .u64 (gd xs (2 * k + 1))) := cell_on hb hbl hd0
      have HT := Lib.hid (show ((up xs).take k).map (Value.int .u64) ++ [.int .u64 (pairN (gd xs (2 * k)) (gd xs (2 * k + 1)))] = ((up xs).take (k + 1)).map (Value.int .u64) by rw [up_take (by omega), snoc_k])
      have U0 := Lib.hid (HU.out (2 * k))
      have U1 := Lib.hid (HU.out (2 * k + 1))
      have hfar := far_own hown hbl
      obtain ⟨OA, OC, rfl, -⟩ := form_own hown
      have hsq := hb.size
      have hl2 : (k : Int) < (xs.length : Int) / 2 := by omega
      clear hc0 hd0
      generalize gd xs (2 * k) = x at *
      generalize gd xs (2 * k + 1) = y at *
      have HLf := Lib.hid (show dig (1 :: (be8 x ++ be8 y)) = pairN x y from rfl)
      go_wp2_with fail
      have ia : IntKind.i64.wrap (2 * (k : Int)) = 2 * (k : Int) := IntWalk.i64_in _ ⟨by omega, by omega⟩
      have ib : IntKind.i64.wrap (2 * (k : Int) + 1) = 2 * (k : Int) + 1 := IntWalk.i64_in _ ⟨by omega, by omega⟩
      have ic : (0 : Int) ≤ 2 * (k : Int) := by omega
      have id' : (0 : Int) ≤ 2 * (k : Int) + 1 := by omega
      have ie : 2 * (k : Int) < (xs.length : Int) := by omega
      have ig : 2 * (k : Int) + 1 < (xs.length : Int) := by omega
      have ih : (2 * (k : Int)).toNat = 2 * k := by omega
      have ii : (2 * (k : Int) + 1).toNat = 2 * k + 1 := by omega
      go_region_held3 (fun W' => W'.cell? ⟨b, o + 2 * k, none⟩ = some (.int .u64 x) ∧ W'.cell? ⟨b, o + (2 * k + 1), none⟩ = some (.int .u64 y))
        (first
          | go_keep
          | exact ⟨x0, x1⟩
          | exact ⟨cell_on hbw hbl x0, cell_on hbw hbl x1⟩
          | exact ⟨cell_on hbv hbl x0, cell_on hbv hbl x1⟩)
        (first
          | (go_at_call 34
             refine (node2_any 1 x y (some ⟨wr.heap.size, 0, none⟩) 2 _ U0.out U1.out (sk_drew (sk_two wr x y _))).mono ?_
             rintro e w1 ⟨rfl, hb1⟩
             have hbw : Below w.heap.size wr w1 := ((Below.refl _ _).alloc hsq _).trans ((undrew_b hb1).mono (by simp; omega))
             have hown0 := own_below ((hown.alloc _).drew) hb1)
          | (refine step_append_lies _ (by rfl) _ _ _ (by rfl) w.heap.size 25 i0 _ 1 8 Tryd.underlying24 hi0 hz0 hz1 hz2 rfl (by omega) (.slice OA k OC) k (((up xs).take k).map (Value.int .u64)) (by rfl) (hown0.alloc _) ⟨w1.heap.size, 0, none⟩ 1 1 [.int .u64 (pairN x y)] (by rfl) (by rfl) (new_k w1 (pairN x y) _) one_k (by omega) (by unfold maxLen; omega) (by omega) (by have := hbw.size; simp; omega) (w1.heap.size + 1) (by simp) ?_; intro gg cap w5 hown1 hgrow hat hlt5; have hbv : Below w.heap.size wr w5 := app_below (hbw.alloc (by have := hbw.size; omega) _) (by have := hbw.size; simp; omega) (hown0.alloc _) (Nat.le_refl _) hgrow))
      have hbv : Below w.heap.size wr w5 := by assumption
      have hB := hb.trans hbv
      clear hbv hb hown ia ib ic id' ie ig ih ii x0 x1 hbw hb1 hown0 hgrow hat hlt5
      go_wp2_with fail
      rw [HT.out] at hown1
      go_roundw
      case rel => exact ⟨k + 1, by omega, by go_num, hown1, hB⟩
      case measure => simp [intOf]; omega
    · have hk' : k = xs.length / 2 := by omega
      have hl2 : ¬ ((k : Int) < (xs.length : Int) / 2) := by omega
      by_cases ho : xs.length % 2 = 1
      · have ho1 : ((xs.length : Int) % 2 == 1) = true := by rw [beq_iff_eq]; omega
        obtain ⟨b, o, rfl, hc0⟩ := H.out (xs.length - 1) (by omega)
        have hbl : b < w.heap.size := block_lt hc0
        have x0 : wr.cell? ⟨b, o + (xs.length - 1), none⟩ = some (.int .u64 (gd xs (xs.length - 1))) := cell_on hb hbl hc0
        have HT := Lib.hid (show ((up xs).take k).map (Value.int .u64) ++ [.int .u64 (gd xs (xs.length - 1))] = (up xs).map (Value.int .u64) by rw [hk', snoc_k, up_odd ho])
        have hsq := hb.size
        have ht : ((xs.length : Int) - 1).toNat = xs.length - 1 := by omega
        have hp1 : (1 : Int) ≤ (xs.length : Int) := by omega
        have hp2 : (xs.length : Int) - 1 < (xs.length : Int) := by omega
        clear hc0
        generalize gd xs (xs.length - 1) = x at *
        have HK := Lib.hid hk'
        clear hk' hlt ho
        go_wp2_with (at_builtin; refine wpList_append_own _ rfl (.tmp 32) (.tmp 39) 24 rfl w.heap.size 25 i0 (.int .u64 0) 1 8 Tryd.underlying24 hi0 hz0 hz1 hz2 rfl (by decide) _ _ _ rfl (hown.alloc _) ⟨wr.heap.size, 0, none⟩ 1 1 [.int .u64 x] rfl rfl (new_k _ _ _) one_k (by unfold maxLen; omega) (by omega) (by simp; omega) ?_; intro v2 w2 hown2 hgr2 hz2'; clear hz2'; have hb2 := app_below (hb.alloc hsq _) (by simp; omega) (hown.alloc _) (Nat.le_refl _) hgr2)
        rw [HT.out] at hown2
        obtain ⟨A', C', rfl, h1, h2, hs⟩ := own_sk hown2
        go_ret
        exact ⟨A', C', rfl, h1, h2, hs, hb2⟩
      · have ho1 : ((xs.length : Int) % 2 == 1) = false := by rw [beq_eq_false_iff_ne]; omega
        rw [hk', up_even (by omega)] at hown
        obtain ⟨A', C', rfl, h1, h2, hs⟩ := own_sk hown
        clear hk' ho
        go_wp2_with fail
        go_ret
        exact ⟨A', C', rfl, h1, h2, hs, hb⟩
end Go.Proofs.YtpplpnmammpkpaaDoor
