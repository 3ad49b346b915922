/-
  The reference's Same; the laws' bytes.
-/
import Derived.Test.YtpplpnmammpkpaaDoorDigJ
namespace Go.Proofs.YtpplpnmammpkpaaDoor
open Go.RowKit Go.Sort
open Go.RowKit (Below)
set_option linter.unusedVariables false
set_option linter.unusedSimpArgs false

theorem list_gd {xs ys : List Int} (hl : xs.length = ys.length) (h : ∀ j, j < xs.length → gd xs j = gd ys j) : xs = ys :=
  List.ext_getElem hl fun j h1 h2 => by rw [← gd_at h1, ← gd_at h2]; exact h j h1
theorem drewN_cell {w : World} {a : Addr} {v : Value} (h : w.cell? a = some v) (n : Nat) : (w.drewN n).cell? a = some v := h
set_option maxRecDepth 100000 in
set_option maxHeartbeats 800000 in
theorem same_any (A B : Option Addr) (C D : Nat) (xs ys : List Int) (w : World) (b : Bool) (hb : decide (xs = ys) = b) (hl : xs.length ≤ 9223372036854775807) (hl2 : ys.length ≤ 9223372036854775807) (hx : Sk .u64 w A xs) (hy : Sk .u64 w B ys) :
    Calls Tryd.prog 19 #[.slice A xs.length C, .slice B ys.length D] w fun e w' => e = .returned (.bool b) ∧ Below w.heap.size w w' := by
  have HX := Lib.hid hx
  have HY := Lib.hid hy
  have HB := Lib.hid hb
  clear hx hy hb
  by_cases he : xs.length = ys.length
  · have HE := Lib.hid he
    have hn : ((xs.length : Int) != (ys.length : Int)) = false := by simp; omega
    have hle : xs.length ≤ ys.length := by omega
    have hge : ys.length ≤ xs.length := by omega
    clear he
    go_enter Tryd.func19, Tryd.ntmps19
    go_wp2_with fail
    go_loopw [5] (fun i wr => ∃ k : Nat, k ≤ xs.length ∧ i = .int .i64 k ∧ Hid (∀ j, j < k → gd xs j = gd ys j) ∧ ∃ nq, wr = w.drewN nq) (fun i _ => xs.length - (intOf i).toNat)
    case atStart => exact ⟨0, Nat.zero_le _, rfl, fun j hj => absurd hj (Nat.not_lt_zero j), 0, rfl⟩
    case round =>
      obtain ⟨k, hk, rfl, HK, nq, rfl⟩ := hrel
      by_cases hlt : k < xs.length
      · obtain ⟨b1, o1, rfl, hc1⟩ := HX.out k hlt
        obtain ⟨b2, o2, rfl, hc2⟩ := HY.out k (by omega)
        have hj1 : (k : Int) < xs.length := by omega
        have hj2 : (k : Int) < ys.length := by omega
        by_cases heq : gd xs k = gd ys k
        · have HN := Lib.hid (show ∀ j, j < k + 1 → gd xs j = gd ys j from fun j hj => by
            by_cases e : j = k
            · subst e; exact heq
            · exact HK.out j (by omega))
          rw [heq] at hc1
          clear heq HK
          generalize gd ys k = c at *
          have hq : (c != c) = false := by simp
          go_wp2_with fail
          go_quiet (fail)
          go_wp2_with fail
          go_roundw
          case rel => exact ⟨k + 1, by omega, by go_num, HN, _, rfl⟩
          case measure => simp [intOf]; omega
        · have HF := Lib.hid (show false = b by rw [← HB.out]; exact (decide_eq_false fun h => heq (by rw [h])).symm)
          have hq : (gd xs k != gd ys k) = true := by simpa using heq
          clear HK heq
          generalize gd ys k = c at *
          generalize gd xs k = d at *
          go_wp2_with fail
          go_quiet (fail)
          go_wp2_with fail
          go_ret
          exact ⟨ret_bool HF.out, below_drewN' (below_drewN' (Below.refl _ _) _) _⟩
      · have HF := Lib.hid (show true = b by rw [← HB.out]; exact (decide_eq_true (list_gd HE.out fun j hj => HK.out j (by omega))).symm)
        go_wp2_with fail
        go_ret
        exact ⟨ret_bool HF.out, below_drewN' (Below.refl _ _) _⟩
  · have HF := Lib.hid (show false = b by rw [← HB.out]; exact (decide_eq_false fun h => he (by rw [h])).symm)
    have hn : ((xs.length : Int) != (ys.length : Int)) = true := by simp; omega
    clear he
    go_enter Tryd.func19, Tryd.ntmps19
    go_wp2_with fail
    go_ret
    exact ⟨ret_bool HF.out, Below.refl _ _⟩

/-- A first byte, and the bytes of numbers. -/
def byB (m : Int) (xs : List Int) : List Int := m :: xs.flatMap be8
theorem byB_take (m : Int) {xs : List Int} {k : Nat} (h : k < xs.length) : byB m (xs.take (k + 1)) = byB m (xs.take k) ++ be8 (gd xs k) := by unfold byB; rw [take_k h]; simp
theorem byB_len (m : Int) (xs : List Int) : (byB m xs).length = 1 + 8 * xs.length := by
  unfold byB
  induction xs with
  | nil => rfl
  | cons x r ih => simp only [List.flatMap_cons, List.length_cons, List.length_append, be8_len] at ih ⊢; omega

set_option maxRecDepth 100000 in
set_option maxHeartbeats 2000000 in
theorem bytes_any (m : Int) (A : Option Addr) (C : Nat) (xs : List Int) (w : World) (hl : xs.length ≤ 100) (hu : ∀ x ∈ xs, U64 x) (h : Sk .u64 w A xs) :
    Calls Tryd.prog 23 #[.int .u8 m, .slice A xs.length C] w (Mkk .u8 w (byB m xs)) := by
  obtain ⟨i0, hi0, hz0, hz1, hz2⟩ := info_parts u8_info
  have H := Lib.hid h
  have HU := Lib.hid (gd_u hu)
  clear h hu
  go_enter Tryd.func23, Tryd.ntmps23
  go_wp2_with fail
  go_loopw [5, 13] (fun v i wr => ∃ k : Nat, k ≤ xs.length ∧ i = .int .i64 k ∧ wr.ownsRow w.heap.size 5 1 v (1 + 8 * k) ((byB m (xs.take k)).map (Value.int .u8)) ∧ Below w.heap.size w wr) (fun _ i _ => xs.length - (intOf i).toNat)
  case atStart => exact ⟨0, Nat.zero_le _, rfl, own_new w #[.int .u8 m] 5 (Nat.le_refl _) (by unfold maxLen; simp), (Below.refl _ _).alloc (Nat.le_refl _) _⟩
  case round =>
    obtain ⟨k, hk, rfl, ownZ, bZ⟩ := hrel
    by_cases hlt : k < xs.length
    · obtain ⟨b, o, rfl, hc0⟩ := H.out k hlt
      have hc : wr.cell? ⟨b, o + k, none⟩ = some (.int .u64 (gd xs k)) := cell_on bZ (block_lt hc0) hc0
      have h1 := (HU.out k).1
      have h2 := (HU.out k).2
      have HF := Lib.hid (show gd xs k / 72057594037927936 = gd xs k / 72057594037927936 % 256 by omega)
      have HT := Lib.hid (show (byB m (xs.take k)).map (Value.int .u8) ++ (be8 (gd xs k)).map (Value.int .u8) = (byB m (xs.take (k + 1))).map (Value.int .u8) by rw [byB_take m hlt, app_k])
      generalize gd xs k = x at *
      generalize (byB m (xs.take k)).map (Value.int .u8) = M at *
      clear hc0
      go_wp2_with fail
      refine wp_loop_rounds 9 ?_
      rw [rounds_succ]
      go_wp2_with (at_builtin; (refine wpList_append_own _ rfl (.tmp 21) (.tmp 26) 22 rfl w.heap.size 5 i0 (.int .u8 0) 1 1 Tryd.underlying22 hi0 hz0 hz1 hz2 rfl (by decide) _ _ _ rfl (ownZ.alloc _) ⟨wr.heap.size, 0, none⟩ 1 1 [.int .u8 (x / 72057594037927936)] rfl rfl (new_k _ _ _) one_k (by unfold maxLen; omega) (by omega) (by have := bZ.size; simp <;> omega) ?_; intro va wa owna gra nna; clear nna; have ba := app_below (bZ.alloc (by have := bZ.size; omega) _) (by have := bZ.size; simp <;> omega) (ownZ.alloc _) (Nat.le_refl _) gra; clear gra))
      clear ownZ bZ
      rw [rounds_succ]
      go_wp2_with (at_builtin; (refine wpList_append_own _ rfl (.tmp 21) (.tmp 26) 22 rfl w.heap.size 5 i0 (.int .u8 0) 1 1 Tryd.underlying22 hi0 hz0 hz1 hz2 rfl (by decide) _ _ _ rfl (owna.alloc _) ⟨wa.heap.size, 0, none⟩ 1 1 [.int .u8 (x / 281474976710656 % 256)] rfl rfl (new_k _ _ _) one_k (by unfold maxLen; omega) (by omega) (by have := ba.size; simp <;> omega) ?_; intro vb wb ownb grb nnb; clear nnb; have bb := app_below (ba.alloc (by have := ba.size; omega) _) (by have := ba.size; simp <;> omega) (owna.alloc _) (Nat.le_refl _) grb; clear grb))
      clear owna ba
      rw [rounds_succ]
      go_wp2_with (at_builtin; (refine wpList_append_own _ rfl (.tmp 21) (.tmp 26) 22 rfl w.heap.size 5 i0 (.int .u8 0) 1 1 Tryd.underlying22 hi0 hz0 hz1 hz2 rfl (by decide) _ _ _ rfl (ownb.alloc _) ⟨wb.heap.size, 0, none⟩ 1 1 [.int .u8 (x / 1099511627776 % 256)] rfl rfl (new_k _ _ _) one_k (by unfold maxLen; omega) (by omega) (by have := bb.size; simp <;> omega) ?_; intro vc wc ownc grc nnc; clear nnc; have bc := app_below (bb.alloc (by have := bb.size; omega) _) (by have := bb.size; simp <;> omega) (ownb.alloc _) (Nat.le_refl _) grc; clear grc))
      clear ownb bb
      rw [rounds_succ]
      go_wp2_with (at_builtin; (refine wpList_append_own _ rfl (.tmp 21) (.tmp 26) 22 rfl w.heap.size 5 i0 (.int .u8 0) 1 1 Tryd.underlying22 hi0 hz0 hz1 hz2 rfl (by decide) _ _ _ rfl (ownc.alloc _) ⟨wc.heap.size, 0, none⟩ 1 1 [.int .u8 (x / 4294967296 % 256)] rfl rfl (new_k _ _ _) one_k (by unfold maxLen; omega) (by omega) (by have := bc.size; simp <;> omega) ?_; intro vd wd ownd grd nnd; clear nnd; have bd := app_below (bc.alloc (by have := bc.size; omega) _) (by have := bc.size; simp <;> omega) (ownc.alloc _) (Nat.le_refl _) grd; clear grd))
      clear ownc bc
      rw [rounds_succ]
      go_wp2_with (at_builtin; (refine wpList_append_own _ rfl (.tmp 21) (.tmp 26) 22 rfl w.heap.size 5 i0 (.int .u8 0) 1 1 Tryd.underlying22 hi0 hz0 hz1 hz2 rfl (by decide) _ _ _ rfl (ownd.alloc _) ⟨wd.heap.size, 0, none⟩ 1 1 [.int .u8 (x / 16777216 % 256)] rfl rfl (new_k _ _ _) one_k (by unfold maxLen; omega) (by omega) (by have := bd.size; simp <;> omega) ?_; intro ve we owne gre nne; clear nne; have be := app_below (bd.alloc (by have := bd.size; omega) _) (by have := bd.size; simp <;> omega) (ownd.alloc _) (Nat.le_refl _) gre; clear gre))
      clear ownd bd
      rw [rounds_succ]
      go_wp2_with (at_builtin; (refine wpList_append_own _ rfl (.tmp 21) (.tmp 26) 22 rfl w.heap.size 5 i0 (.int .u8 0) 1 1 Tryd.underlying22 hi0 hz0 hz1 hz2 rfl (by decide) _ _ _ rfl (owne.alloc _) ⟨we.heap.size, 0, none⟩ 1 1 [.int .u8 (x / 65536 % 256)] rfl rfl (new_k _ _ _) one_k (by unfold maxLen; omega) (by omega) (by have := be.size; simp <;> omega) ?_; intro vf wf ownf grf nnf; clear nnf; have bf := app_below (be.alloc (by have := be.size; omega) _) (by have := be.size; simp <;> omega) (owne.alloc _) (Nat.le_refl _) grf; clear grf))
      clear owne be
      rw [rounds_succ]
      go_wp2_with (at_builtin; (refine wpList_append_own _ rfl (.tmp 21) (.tmp 26) 22 rfl w.heap.size 5 i0 (.int .u8 0) 1 1 Tryd.underlying22 hi0 hz0 hz1 hz2 rfl (by decide) _ _ _ rfl (ownf.alloc _) ⟨wf.heap.size, 0, none⟩ 1 1 [.int .u8 (x / 256 % 256)] rfl rfl (new_k _ _ _) one_k (by unfold maxLen; omega) (by omega) (by have := bf.size; simp <;> omega) ?_; intro vg wg owng grg nng; clear nng; have bg := app_below (bf.alloc (by have := bf.size; omega) _) (by have := bf.size; simp <;> omega) (ownf.alloc _) (Nat.le_refl _) grg; clear grg))
      clear ownf bf
      rw [rounds_succ]
      go_wp2_with (at_builtin; (refine wpList_append_own _ rfl (.tmp 21) (.tmp 26) 22 rfl w.heap.size 5 i0 (.int .u8 0) 1 1 Tryd.underlying22 hi0 hz0 hz1 hz2 rfl (by decide) _ _ _ rfl (owng.alloc _) ⟨wg.heap.size, 0, none⟩ 1 1 [.int .u8 (x % 256)] rfl rfl (new_k _ _ _) one_k (by unfold maxLen; omega) (by omega) (by have := bg.size; simp <;> omega) ?_; intro vh wh ownh grh nnh; clear nnh; have bh := app_below (bg.alloc (by have := bg.size; omega) _) (by have := bg.size; simp <;> omega) (owng.alloc _) (Nat.le_refl _) grh; clear grh))
      clear owng bg
      rw [rounds_succ]
      go_wp2_with fail
      rw [HF.out] at ownh
      have ownN : wh.ownsRow w.heap.size 5 1 vh (1 + 8 * (k + 1)) ((byB m (xs.take (k + 1))).map (Value.int .u8)) := by
        rw [← HT.out]
        simpa [be8, Nat.mul_add, Nat.add_assoc] using ownh
      clear ownh
      go_roundw
      case rel => exact ⟨k + 1, by omega, by go_num, ownN, bh⟩
      case measure => simp [intOf]; omega
    · rw [List.take_of_length_le (by omega)] at ownZ
      obtain ⟨A1, C1, rfl, q1, q2, hs⟩ := own_sk ownZ
      go_wp2_with fail
      go_ret
      exact ⟨A1, C1, rfl, q1, q2, hs, bZ⟩
end Go.Proofs.YtpplpnmammpkpaaDoor
