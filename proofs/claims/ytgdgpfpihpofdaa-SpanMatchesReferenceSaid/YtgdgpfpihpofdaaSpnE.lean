/-
  The reference of package span: ends and merged.
-/
import Derived.Test.YtgdgpfpihpofdaaSpnD
namespace Go.Proofs.Ytgdgpfpihpofdaa
open Go.RowKit Go.Sort
open Go.RowKit (Below)
set_option linter.unusedVariables false

/-- What an append leaves below. -/
theorem below_app {B : Nat} {w wr w1 : World} {o : Obj} {base : Nat} {e : TypeId} {size : Nat} {v : Value} {n : Nat} {xs : List Value} (hb : Below B w wr) (hB : B ≤ wr.heap.size) (hown : wr.ownsRow base e size v n xs) (hbase : B ≤ base) (hg : (wr.alloc o).grownBy w1 v.ownBlock) : Below B w w1 :=
  (hb.alloc hB o).grown hg (by simp; omega) fun k hk => by have := (hown.lt k hk).1; omega
theorem new_one (wr : World) (x : Int) (t : TypeId) (j : Nat) (u : Value) (h : [Value.int .i64 x][j]? = some u) : (wr.alloc (.cells #[.int .i64 x] t)).cell? ((⟨wr.heap.size, 0, none⟩ : Addr).add j) = some u := by
  match j, h with
  | 0, h => simp at h; subst h; simp [Addr.add, go_sem]
theorem one_cell {x : Int} : ∀ u ∈ [Value.int .i64 x], u.oneCell' = true := by
  intro u hu
  simp at hu
  subst hu
  rfl
theorem map_snoc (xs : List Int) (x : Int) : xs.map (Value.int .i64) ++ [.int .i64 x] = (xs ++ [x]).map (Value.int .i64) := by simp
theorem ends_snoc (l : List Spn) (s : Spn) : endsS (l ++ [s]) = endsS l ++ [s.1] ++ [s.2] := by simp [endsS]
/-- A list of ints that a call has made. -/
def Mk (w : World) (xs : List Int) (e : Ending) (w' : World) : Prop := ∃ A C, e = .returned (.slice A xs.length C) ∧ Sl w' A xs ∧ Below w.heap.size w w'

set_option maxRecDepth 100000 in
set_option maxHeartbeats 800000 in
theorem rends_any (A : Option Addr) (C : Nat) (xs : List Spn) (w : World) (hl : xs.length ≤ 1000) (h : SlS w A xs) :
    Calls Try.prog 43 #[.slice A xs.length C] w (Mk w (endsS xs)) := by
  obtain ⟨i0, hi0, hz0, hz1, hz2⟩ := info_parts (show (Try.prog.info? 3).map (fun i => (i.zero, i.size, i.bytes)) = some (some (.int .i64 0), 1, 8) by kernel_rfl)
  have H := Lib.hid h
  clear h
  go_enter Try.func43, Try.ntmps43
  go_wp2
  go_loopw [3, 4] (fun v i wr => ∃ k : Nat, k ≤ xs.length ∧ i = .int .i64 k ∧ wr.ownsRow w.heap.size 3 1 v (2 * k) ((endsS (xs.take k)).map (Value.int .i64)) ∧ Below w.heap.size w wr) (fun _ i _ => xs.length - (intOf i).toNat)
  case atStart => exact ⟨0, Nat.zero_le _, rfl, World.ownsRow_nil _ _ _ _, Below.refl _ _⟩
  case round =>
    obtain ⟨k, hk, rfl, hown, hb⟩ := hrel
    by_cases hlt : k < xs.length
    · obtain ⟨b, o, rfl, hc0, hd0⟩ := H.out k hlt
      have hbl : b < w.heap.size := block_lt hc0
      have hc : wr.cell? ⟨b, o + k * 2, none⟩ = some (.int .i64 (gdS xs k).1) := by rw [hb.cell hbl]; exact hc0
      have HD := Lib.hid (fun w1 (h1 : Below w.heap.size w w1) => show w1.cell? ⟨b, o + k * 2 + 1, none⟩ = some (.int .i64 (gdS xs k).2) by rw [h1.cell hbl]; exact hd0)
      have HT := Lib.hid (show (endsS (xs.take k)).map (Value.int .i64) ++ [.int .i64 (gdS xs k).1] ++ [.int .i64 (gdS xs k).2] = (endsS (xs.take (k + 1))).map (Value.int .i64) by rw [takeS hlt, ends_snoc, map_snoc, map_snoc])
      have hsz := hb.size
      clear hc0 hd0
      generalize (gdS xs k).1 = f at *
      generalize (gdS xs k).2 = u at *
      go_wp2_with (first
        | (at_builtin; refine wpList_append_own _ rfl (.tmp 11) (.tmp 17) 53 rfl w.heap.size 3 i0 (.int .i64 0) 1 8 Try.underlying53 hi0 hz0 hz1 hz2 rfl (by decide) _ _ _ rfl (hown.alloc _) ⟨wr.heap.size, 0, none⟩ 1 1 [.int .i64 f] rfl rfl (new_one _ _ _) one_cell (by unfold maxLen; omega) (by omega) (by simp; omega) ?_; intro v1 w1 hown1 hgr1 hz1; clear hz1; have hb1 := below_app hb hsz hown (Nat.le_refl _) hgr1; have hd1 := HD.out w1 hb1; have hs1 := hb1.size)
        | (at_builtin; refine wpList_append_own _ rfl (.tmp 19) (.tmp 25) 53 rfl w.heap.size 3 i0 (.int .i64 0) 1 8 Try.underlying53 hi0 hz0 hz1 hz2 rfl (by decide) _ _ _ rfl (hown1.alloc _) ⟨w1.heap.size, 0, none⟩ 1 1 [.int .i64 u] rfl rfl (new_one _ _ _) one_cell (by unfold maxLen; omega) (by omega) (by simp; omega) ?_; intro v2 w2 hown2 hgr2 hz2; clear hz2; have hb2 := below_app hb1 hs1 hown1 (Nat.le_refl _) hgr2))
      rw [HT.out] at hown2
      go_roundw
      case rel => exact ⟨k + 1, by omega, by go_num, hown2, hb2⟩
      case measure => simp [intOf]; omega
    · rw [List.take_of_length_le (by omega)] at hown
      obtain ⟨A', C', rfl, hs⟩ := own_sl hown
      go_wp2
      go_ret
      exact ⟨A', C', rfl, hs, hb⟩
end Go.Proofs.Ytgdgpfpihpofdaa
