/-
  The reference of package digest: Sum, eight, Leaf, Pair, first, tree.
-/
import Derived.Test.YtpplpnmammpkpaaDoorDigJ
namespace Go.Proofs.YtpplpnmammpkpaaDoor
open Go.RowKit Go.Sort
open Go.RowKit (Below)
set_option linter.unusedVariables false

set_option maxHeartbeats 400000 in
theorem rsum_any (A : Option Addr) (C : Nat) (xs : List Int) (w : World) (hl : xs.length ≤ 9223372036854775807) (hs : Sk .u8 w A xs) :
    Calls Tryd.prog 12 #[.slice A xs.length C] w fun e w' => e = .returned (.int .u64 (dig xs)) ∧ w = w' := by
  have HS := Lib.hid hs
  have HT := Lib.hid (fun j (hj : j < xs.length) => fnv_take 14695981039346656037 hj)
  clear hs
  go_enter Tryd.func12, Tryd.ntmps12
  go_wp2
  go_loop [3, 4] (fun t i => ∃ k : Nat, k ≤ xs.length ∧ i = .int .i64 k ∧ t = .int .u64 (dig (xs.take k))) (fun _ i => xs.length - (intOf i).toNat)
  case atStart => exact ⟨0, Nat.zero_le _, rfl, rfl⟩
  case round =>
    obtain ⟨k, hk, rfl, rfl⟩ := hrel
    by_cases hlt : k < xs.length
    · obtain ⟨b, o, rfl, hc⟩ := HS.out k hlt
      have HE := Lib.hid (show dig (xs.take (k + 1)) = stp (dig (xs.take k)) (gd xs k) from HT.out k hlt)
      generalize dig (xs.take k) = g at *
      generalize gd xs k = c at *
      go_wp2
      go_round
      case rel => exact ⟨k + 1, by omega, by go_num, by rw [HE.out]; exact ret_val (by unfold stp; rfl)⟩
      case measure => simp [intOf]; omega
    · rw [List.take_of_length_le (by omega)]
      go_wp2
      go_ret
      exact ⟨rfl, rfl⟩

theorem tree_any (n : Nat) (w : World) (hl : n ≤ 9223372036854775807) :
    Calls Tryd.prog 30 #[.int .i64 n] w fun e w' => e = .returned (.int .i64 (lvE n)) ∧ w = w' := by
  by_cases h0 : n = 0
  · subst h0
    go_enter Tryd.func30, Tryd.ntmps30
    go_wp2
    go_ret
    exact ⟨rfl, rfl⟩
  · have h0' : ((n : Int) == 0) = false := by rw [beq_eq_false_iff_ne]; omega
    by_cases h1 : n ≤ 1024
    · have HE := Lib.hid (show (0 : Int) = lvE n by unfold lvE; rw [if_neg h0, if_pos h1])
      clear h0
      go_enter Tryd.func30, Tryd.ntmps30
      go_wp2
      go_ret
      exact ⟨ret_int HE.out, rfl⟩
    · have HE := Lib.hid (show (2 : Int) = lvE n by unfold lvE; rw [if_neg h0, if_neg h1])
      clear h0
      go_enter Tryd.func30, Tryd.ntmps30
      go_wp2
      go_ret
      exact ⟨ret_int HE.out, rfl⟩

set_option maxRecDepth 100000 in
set_option maxHeartbeats 1000000 in
theorem eight_any (n : Int) (hn : U64 n) (w : World) :
    Calls Tryd.prog 39 #[.int .u64 n] w (Mkk .u8 w (be8 n)) := by
  obtain ⟨i0, hi0, hz0, hz1, hz2⟩ := info_parts u8_info
  obtain ⟨h1, h2⟩ := hn
  have ownZ : w.ownsRow w.heap.size 5 1 (.slice none 0 0) 0 [] := World.ownsRow_nil _ _ _ _
  have bZ := Below.refl w.heap.size w
  have wZ : w = w := rfl
  clear wZ
  have HF := Lib.hid (show n / 72057594037927936 = n / 72057594037927936 % 256 by omega)
  go_enter Tryd.func39, Tryd.ntmps39
  go_wp2_with fail
  refine wp_loop_rounds 9 ?_
  rw [rounds_succ]
  go_wp2_with (at_builtin; (refine wpList_append_own _ rfl (.tmp 9) (.tmp 14) 22 rfl w.heap.size 5 i0 (.int .u8 0) 1 1 Tryd.underlying22 hi0 hz0 hz1 hz2 rfl (by decide) _ _ _ rfl (ownZ.alloc _) ⟨w.heap.size, 0, none⟩ 1 1 [.int .u8 (n / 72057594037927936)] rfl rfl (new_k _ _ _) one_k (by unfold maxLen; omega) (by omega) (by have := bZ.size; simp <;> omega) ?_; intro va wa owna gra nna; clear nna; have ba := app_below (bZ.alloc (by have := bZ.size; omega) _) (by have := bZ.size; simp <;> omega) (ownZ.alloc _) (Nat.le_refl _) gra; clear gra))
  clear ownZ bZ
  rw [rounds_succ]
  go_wp2_with (at_builtin; (refine wpList_append_own _ rfl (.tmp 9) (.tmp 14) 22 rfl w.heap.size 5 i0 (.int .u8 0) 1 1 Tryd.underlying22 hi0 hz0 hz1 hz2 rfl (by decide) _ _ _ rfl (owna.alloc _) ⟨wa.heap.size, 0, none⟩ 1 1 [.int .u8 (n / 281474976710656 % 256)] rfl rfl (new_k _ _ _) one_k (by unfold maxLen; omega) (by omega) (by have := ba.size; simp <;> omega) ?_; intro vb wb ownb grb nnb; clear nnb; have bb := app_below (ba.alloc (by have := ba.size; omega) _) (by have := ba.size; simp <;> omega) (owna.alloc _) (Nat.le_refl _) grb; clear grb))
  clear owna ba
  rw [rounds_succ]
  go_wp2_with (at_builtin; (refine wpList_append_own _ rfl (.tmp 9) (.tmp 14) 22 rfl w.heap.size 5 i0 (.int .u8 0) 1 1 Tryd.underlying22 hi0 hz0 hz1 hz2 rfl (by decide) _ _ _ rfl (ownb.alloc _) ⟨wb.heap.size, 0, none⟩ 1 1 [.int .u8 (n / 1099511627776 % 256)] rfl rfl (new_k _ _ _) one_k (by unfold maxLen; omega) (by omega) (by have := bb.size; simp <;> omega) ?_; intro vc wc ownc grc nnc; clear nnc; have bc := app_below (bb.alloc (by have := bb.size; omega) _) (by have := bb.size; simp <;> omega) (ownb.alloc _) (Nat.le_refl _) grc; clear grc))
  clear ownb bb
  rw [rounds_succ]
  go_wp2_with (at_builtin; (refine wpList_append_own _ rfl (.tmp 9) (.tmp 14) 22 rfl w.heap.size 5 i0 (.int .u8 0) 1 1 Tryd.underlying22 hi0 hz0 hz1 hz2 rfl (by decide) _ _ _ rfl (ownc.alloc _) ⟨wc.heap.size, 0, none⟩ 1 1 [.int .u8 (n / 4294967296 % 256)] rfl rfl (new_k _ _ _) one_k (by unfold maxLen; omega) (by omega) (by have := bc.size; simp <;> omega) ?_; intro vd wd ownd grd nnd; clear nnd; have bd := app_below (bc.alloc (by have := bc.size; omega) _) (by have := bc.size; simp <;> omega) (ownc.alloc _) (Nat.le_refl _) grd; clear grd))
  clear ownc bc
  rw [rounds_succ]
  go_wp2_with (at_builtin; (refine wpList_append_own _ rfl (.tmp 9) (.tmp 14) 22 rfl w.heap.size 5 i0 (.int .u8 0) 1 1 Tryd.underlying22 hi0 hz0 hz1 hz2 rfl (by decide) _ _ _ rfl (ownd.alloc _) ⟨wd.heap.size, 0, none⟩ 1 1 [.int .u8 (n / 16777216 % 256)] rfl rfl (new_k _ _ _) one_k (by unfold maxLen; omega) (by omega) (by have := bd.size; simp <;> omega) ?_; intro ve we owne gre nne; clear nne; have be := app_below (bd.alloc (by have := bd.size; omega) _) (by have := bd.size; simp <;> omega) (ownd.alloc _) (Nat.le_refl _) gre; clear gre))
  clear ownd bd
  rw [rounds_succ]
  go_wp2_with (at_builtin; (refine wpList_append_own _ rfl (.tmp 9) (.tmp 14) 22 rfl w.heap.size 5 i0 (.int .u8 0) 1 1 Tryd.underlying22 hi0 hz0 hz1 hz2 rfl (by decide) _ _ _ rfl (owne.alloc _) ⟨we.heap.size, 0, none⟩ 1 1 [.int .u8 (n / 65536 % 256)] rfl rfl (new_k _ _ _) one_k (by unfold maxLen; omega) (by omega) (by have := be.size; simp <;> omega) ?_; intro vf wf ownf grf nnf; clear nnf; have bf := app_below (be.alloc (by have := be.size; omega) _) (by have := be.size; simp <;> omega) (owne.alloc _) (Nat.le_refl _) grf; clear grf))
  clear owne be
  rw [rounds_succ]
  go_wp2_with (at_builtin; (refine wpList_append_own _ rfl (.tmp 9) (.tmp 14) 22 rfl w.heap.size 5 i0 (.int .u8 0) 1 1 Tryd.underlying22 hi0 hz0 hz1 hz2 rfl (by decide) _ _ _ rfl (ownf.alloc _) ⟨wf.heap.size, 0, none⟩ 1 1 [.int .u8 (n / 256 % 256)] rfl rfl (new_k _ _ _) one_k (by unfold maxLen; omega) (by omega) (by have := bf.size; simp <;> omega) ?_; intro vg wg owng grg nng; clear nng; have bg := app_below (bf.alloc (by have := bf.size; omega) _) (by have := bf.size; simp <;> omega) (ownf.alloc _) (Nat.le_refl _) grg; clear grg))
  clear ownf bf
  rw [rounds_succ]
  go_wp2_with (at_builtin; (refine wpList_append_own _ rfl (.tmp 9) (.tmp 14) 22 rfl w.heap.size 5 i0 (.int .u8 0) 1 1 Tryd.underlying22 hi0 hz0 hz1 hz2 rfl (by decide) _ _ _ rfl (owng.alloc _) ⟨wg.heap.size, 0, none⟩ 1 1 [.int .u8 (n % 256)] rfl rfl (new_k _ _ _) one_k (by unfold maxLen; omega) (by omega) (by have := bg.size; simp <;> omega) ?_; intro vh wh ownh grh nnh; clear nnh; have bh := app_below (bg.alloc (by have := bg.size; omega) _) (by have := bg.size; simp <;> omega) (owng.alloc _) (Nat.le_refl _) grh; clear grh))
  clear owng bg
  rw [rounds_succ]
  go_wp2_with fail
  rw [HF.out] at ownh
  obtain ⟨A, C, rfl, q1, q2, hs⟩ := own_sk (xs := be8 n) ownh
  go_ret
  exact ⟨A, C, rfl, q1, q2, hs, bh⟩
end Go.Proofs.YtpplpnmammpkpaaDoor
