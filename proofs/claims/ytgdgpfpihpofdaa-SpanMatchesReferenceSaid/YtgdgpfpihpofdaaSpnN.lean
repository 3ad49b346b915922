/-
  Package span: sortedEnds.
-/
import Derived.Test.YtgdgpfpihpofdaaSpnM
namespace Go.Proofs.Ytgdgpfpihpofdaa
open Go.RowKit Go.Sort
open Go.RowKit (Below)
set_option linter.unusedVariables false

theorem heap_putRow_other {α : Type} [Inhabited α] (enc : α → Value) (w : World) (blk off : Nat) (d : Array α) (b : Nat) (h : b ≠ blk) : (putRow enc w blk off d).heap[b]? = w.heap[b]? := by
  simp only [putRow, mapBlock, Array.getElem?_modify]
  rw [if_neg (by omega)]
theorem grown_put {α : Type} [Inhabited α] (enc : α → Value) (w : World) (n g off : Nat) (d : Array α) : w.grownBy (putRow enc (Sort.ahead w n) g off d) (some g) :=
  ⟨rfl, rfl, rfl, by simp [Sort.ahead], fun k _ hne => by rw [heap_putRow_other _ _ _ _ _ _ (by rintro rfl; exact hne rfl)]; rfl⟩
/-- Block g holds ints. -/
def Ty (w : World) (g : Nat) : Prop := ∃ cs fz, w.heap[g]? = some (.cells cs 3 fz)
theorem Ty.put {α : Type} [Inhabited α] {enc : α → Value} {w : World} {n g off : Nat} {d : Array α} (h : Ty w g) : Ty (putRow enc (Sort.ahead w n) g off d) g := by
  obtain ⟨cs, fz, h⟩ := h
  refine ⟨putCells enc off d cs, fz, ?_⟩
  simp only [putRow, mapBlock, Array.getElem?_modify, if_true]
  show ((Sort.ahead w n).heap[g]?).map _ = _
  rw [show (Sort.ahead w n).heap[g]? = w.heap[g]? from rfl, h]
  rfl
theorem Ty.grow {w : World} {g : Nat} (h : Ty w g) (os : Array Obj) : Ty (grow w os) g := by
  obtain ⟨cs, fz, h⟩ := h
  exact ⟨cs, fz, by rw [heap_grow_old w os (Array.getElem?_eq_some_iff.1 h).1]; exact h⟩
theorem Ty.own {w : World} {base g n cap : Nat} {xs : List Value} (h : w.ownsRow base 3 1 (.slice (some ⟨g, 0, none⟩) n cap) n xs) : Ty w g := by
  rcases h.2 with ⟨h0, _⟩ | ⟨g', cap', cur, e, _, hg, _⟩
  · cases h0
  · injection e with e
    injection e with e
    injection e with e
    subst e
    exact ⟨_, _, hg⟩
/-- A list of ints that a call has made, in a block of ints. -/
def MkT (w : World) (xs : List Int) (e : Ending) (w' : World) : Prop := ∃ A C, e = .returned (.slice A xs.length C) ∧ Sl w' A xs ∧ Below w.heap.size w w' ∧ (xs ≠ [] → ∃ g, A = some ⟨g, 0, none⟩ ∧ Ty w' g)
theorem grown_grow {w wr : World} {row : Option Nat} (h : w.grownBy wr row) (os : Array Obj) : w.grownBy (grow wr os) row :=
  h.trans ⟨rfl, rfl, rfl, by simp, fun k hk _ => heap_grow_old wr os hk⟩
theorem holds_own {w : World} {base : Nat} {e : TypeId} {g cap n : Nat} {zs : List Int} (h : w.ownsRow base e 1 (.slice (some ⟨g, 0, none⟩) n cap) n (zs.map (Value.int .i64))) : Holds (Value.int .i64) w g 0 zs.toArray := by
  intro j hj
  have hj' : j < zs.length := by simpa using hj
  have hl : zs.length = n := by have := h.1; simpa using this
  refine ⟨?_, by rw [Nat.zero_add]; exact World.ownsRow.frozenAt h j⟩
  rw [Nat.zero_add, World.ownsRow.cellAt h j (by omega)]
  simp [hj']
theorem holds_sl {w : World} {g : Nat} {zs ys : List Int} (h : Holds (Value.int .i64) w g 0 (zs ++ ys).toArray) : Sl w (some ⟨g, 0, none⟩) zs := by
  intro k hk
  refine ⟨g, 0, rfl, ?_⟩
  rw [(h k (by simp; omega)).1, gd_at hk]
  simp [show k < zs.length + ys.length by omega, hk]
theorem sort_ints (base g cap : Nat) (zs : List Int) (w : World) (hl : zs.length ≤ 100000) (h0 : 0 < zs.length) (hown : w.ownsRow base 3 1 (.slice (some ⟨g, 0, none⟩) zs.length cap) zs.length (zs.map (Value.int .i64))) :
    Calls Try.prog 46 #[.slice (some ⟨g, 0, none⟩) zs.length cap] w fun e w' => e = .returned (.tuple #[]) ∧ Holds (Value.int .i64) w' g 0 (zs.mergeSort fun x y => decide (x ≤ y)).toArray ∧ w.grownBy w' (some g) ∧ Ty w' g := by
  have hH := holds_own hown
  have hg : g < w.heap.size := by
    have h1 := (hH 0 (by simpa using h0)).1
    exact block_lt h1
  refine (Try.slices_Sort_int g 0 cap zs w hH hg (by omega)).mono ?_
  rintro e w' ⟨he, n, os, rfl⟩
  refine ⟨he, ?_, grown_grow (grown_put _ w n g 0 _) os, (Ty.own hown).put.grow os⟩
  refine holds_grow _ _ _ _ _ _ (by simpa [Sort.ahead] using hg) (holds_putRow _ _ g 0 zs.toArray _ (holds_ahead _ w n g 0 _ hH) ?_)
  simp
theorem compact_ints (g cap : Nat) (zs : List Int) (w : World) (hl : zs.length ≤ 100000) (hc : zs.length ≤ cap) (hH : Holds (Value.int .i64) w g 0 zs.toArray) (ht : Ty w g) :
    Calls Try.prog 47 #[.slice (some ⟨g, 0, none⟩) zs.length cap] w fun e w' => e = .returned (.slice (some ⟨g, 0, none⟩) (Lib.compact zs).length cap) ∧ Sl w' (some ⟨g, 0, none⟩) (Lib.compact zs) ∧ w.grownBy w' (some g) ∧ Ty w' g := by
  refine (Try.slices_Compact_int g 0 cap zs w hH (by omega) hc).mono ?_
  rintro e w' ⟨he, q, rfl⟩
  refine ⟨he, holds_sl (holds_putRow _ _ g 0 zs.toArray _ (holds_ahead _ w q g 0 _ hH) ?_), grown_put _ w q g 0 _, ht.put⟩
  have := cpt_len zs
  simp
  omega

theorem new_two2 (wr : World) (o : Obj) (x y : Int) (t : TypeId) (j : Nat) (u : Value) (h : [Value.int .i64 x, .int .i64 y][j]? = some u) : ((wr.alloc o).alloc (.cells #[.int .i64 x, .int .i64 y] t)).cell? ((⟨wr.heap.size + 1, 0, none⟩ : Addr).add j) = some u := by
  have := new_two (wr.alloc o) x y t j u h
  rwa [World.size_alloc] at this
set_option maxRecDepth 100000 in
set_option maxHeartbeats 1600000 in
theorem sends_any (A B : Option Addr) (C D : Nat) (xs ys : List Spn) (w : World) (hl : xs.length ≤ 1000) (hl2 : ys.length ≤ 1000) (hx : Ls w A C xs) (hy : Ls w B D ys) :
    Calls Try.prog 41 #[.slice A xs.length C, .slice B ys.length D] w (MkT w (allE xs ys)) := by
  obtain ⟨i0, hi0, hz0, hz1, hz2⟩ := info_parts (show (Try.prog.info? 3).map (fun i => (i.zero, i.size, i.bytes)) = some (some (.int .i64 0), 1, 8) by kernel_rfl)
  have HX := Lib.hid hx
  have HY := Lib.hid hy
  clear hx hy
  go_enter Try.func41, Try.ntmps41
  go_wp2_with fail
  have hb0 : Below w.heap.size w (w.alloc (.cells #[.slice A xs.length C, .slice B ys.length D] 22)) := (Below.refl _ _).alloc (Nat.le_refl _) _
  refine (concat_any w.heap.size A B C D xs ys _ hl hl2 (by simp [go_sem]) (by simp [go_sem]) (HX.out.below hb0) (HY.out.below hb0)).mono ?_
  rintro e w1 ⟨v, rfl, hown0, hb1⟩
  have HB1 := Lib.hid (hb0.trans (hb1.mono (by simp)))
  have hl3 : (xs ++ ys).length ≤ 2000 := by simp; omega
  have HE := Lib.hid (show Lib.compact ((endsS (xs ++ ys)).mergeSort fun x y => decide (x ≤ y)) = allE xs ys from rfl)
  obtain ⟨A1, C1, rfl, -, -, hs⟩ := own_slS hown0
  have H := Lib.hid hs
  generalize xs ++ ys = zs at *
  clear hown0 hb1 hs hb0
  go_wp2_with fail
  go_loopw [5, 13] (fun v i wr => ∃ k : Nat, k ≤ zs.length ∧ i = .int .i64 k ∧ wr.ownsRow w1.heap.size 3 1 v (2 * k) ((endsS (zs.take k)).map (Value.int .i64)) ∧ Below w1.heap.size w1 wr) (fun _ i _ => zs.length - (intOf i).toNat)
  case atStart => exact ⟨0, Nat.zero_le _, rfl, World.ownsRow_nil _ _ _ _, Below.refl _ _⟩
  case round =>
    obtain ⟨k, hk, rfl, hown, hb⟩ := hrel
    by_cases hlt : k < zs.length
    · obtain ⟨b, o, rfl, hc0, hd0⟩ := H.out k hlt
      have hbl : b < w1.heap.size := block_lt hc0
      have hc : wr.cell? ⟨b, o + k * 2, none⟩ = some (.int .i64 (gdS zs k).1) := by rw [hb.cell hbl]; exact hc0
      have hd : wr.cell? ⟨b, o + k * 2 + 1, none⟩ = some (.int .i64 (gdS zs k).2) := by rw [hb.cell hbl]; exact hd0
      have HT := Lib.hid (show (endsS (zs.take k)).map (Value.int .i64) ++ [.int .i64 (gdS zs k).1, .int .i64 (gdS zs k).2] = (endsS (zs.take (k + 1))).map (Value.int .i64) by rw [takeS hlt, ends_snoc, List.append_assoc, List.map_append]; rfl)
      have hsz := hb.size
      clear hc0 hd0
      generalize (gdS zs k).1 = f at *
      generalize (gdS zs k).2 = u at *
      go_wp2_with (first
        | (at_builtin; refine wpList_append_own _ rfl (.tmp 17) (.tmp 22) 53 rfl w1.heap.size 3 i0 (.int .i64 0) 1 8 Try.underlying53 hi0 hz0 hz1 hz2 rfl (by decide) _ _ _ rfl ((hown.alloc _).alloc _) ⟨wr.heap.size + 1, 0, none⟩ 2 2 [.int .i64 f, .int .i64 u] rfl rfl (new_two2 _ _ _ _ _) two_cell (by unfold maxLen; omega) (by omega) (by simp; omega) ?_; intro v1 w2 hown1 hgr1 hzz; clear hzz; have hb2 := below_app (hb.alloc hsz _) (by simp; omega) (hown.alloc _) (Nat.le_refl _) hgr1))
      rw [HT.out] at hown1
      go_roundw
      case rel => exact ⟨k + 1, by omega, by go_num, hown1, hb2⟩
      case measure => simp [intOf]; omega
    · have HF := Lib.hid (show (zs.take k) = zs from List.take_of_length_le (by omega))
      have hk2 : k = zs.length := by omega
      rw [HF.out] at hown
      have HBF := Lib.hid (HB1.out.trans (hb.mono HB1.out.size))
      have hlen := ends_len zs
      rw [← hk2] at hlen
      have HLEN := Lib.hid hlen
      clear hk2 hlen HF
      by_cases hk0 : k = 0
      · subst hk0
        obtain ⟨A2, C2, rfl, -⟩ := own_form hown
        have HN := Lib.hid (show [] = allE xs ys by
          have := List.eq_nil_of_length_eq_zero HLEN.out
          rw [← HE.out, this]; simp [Lib.compact, Lib.compactUpTo])
        clear HE HLEN hown
        go_wp2_with fail
        refine (Try.slices_Sort_int_none A2 C2 wr).mono ?_
        rintro e w2 ⟨rfl, rfl⟩
        go_wp2_with fail
        refine (Try.slices_Compact_int_empty A2 C2 w2).mono ?_
        rintro e w3 ⟨rfl, rfl⟩
        go_wp2_with fail
        go_ret
        rw [← HN.out]
        exact ⟨A2, C2, rfl, Sl.nil _ _, HBF.out, fun h => absurd rfl h⟩
      · obtain ⟨A2, C2, rfl, hC1, hC2, hcells⟩ := own_form hown
        have hz : 0 < (endsS zs).length := by rw [HLEN.out]; omega
        obtain ⟨g, rfl, hg, -⟩ := hcells 0 _ (List.getElem?_eq_getElem (by simpa using hz))
        clear hcells
        have hown2 : wr.ownsRow w1.heap.size 3 1 (.slice (some ⟨g, 0, none⟩) (endsS zs).length C2) (endsS zs).length ((endsS zs).map (Value.int .i64)) := by rw [HLEN.out]; exact hown
        have HS := Lib.hid (sort_ints w1.heap.size g C2 (endsS zs) wr (by rw [HLEN.out]; omega) hz hown2)
        rw [HLEN.out] at HS
        clear hown hown2 hz
        go_wp2_with fail
        refine HS.out.mono ?_
        rintro e w2 ⟨rfl, hH, hg2, hty⟩
        have HSL := Lib.hid ((sort_ok (endsS zs)).2.length_eq.trans HLEN.out)
        have HC := Lib.hid (compact_ints g C2 _ w2 (by rw [HSL.out]; omega) (by rw [HSL.out]; omega) hH hty)
        rw [HSL.out, HE.out] at HC
        have HBG := Lib.hid (HBF.out.grown hg2 HBF.out.size (fun j e => by cases e; have := hb.size; have := HB1.out.size; omega))
        clear hH hg2 hty
        go_wp2_with fail
        refine HC.out.mono ?_
        rintro e w3 ⟨rfl, hsl, hg3, hty⟩
        have HBH := Lib.hid (HBG.out.grown hg3 HBG.out.size (fun j e => by cases e; have := hb.size; have := HB1.out.size; omega))
        have HSLL := Lib.hid hsl
        have HTY := Lib.hid hty
        clear hg3 hsl hty
        go_wp2_with fail
        go_ret
        exact ⟨_, C2, rfl, HSLL.out, HBH.out, fun _ => ⟨g, rfl, HTY.out⟩⟩
end Go.Proofs.Ytgdgpfpihpofdaa
