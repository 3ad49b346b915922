/-
  The reference of package digest: Leaf, Pair, Ints.
-/
import Derived.Test.YtpplpnmammpkpaaDoorDigRA
namespace Go.Proofs.YtpplpnmammpkpaaDoor
open Go.RowKit Go.Sort
open Go.RowKit (Below)
set_option linter.unusedVariables false
set_option linter.unusedSimpArgs false

set_option maxRecDepth 100000 in
set_option maxHeartbeats 1000000 in
theorem rleaf_any (n : Int) (hn : U64 n) (w : World) :
    Calls Tryd.prog 35 #[.int .u64 n] w fun e w' => e = .returned (.int .u64 (leafN n)) ∧ Below w.heap.size w w' := by
  obtain ⟨i0, hi0, hz0, hz1, hz2⟩ := info_parts u8_info
  have HN := Lib.hid hn
  clear hn
  go_enter Tryd.func35, Tryd.ntmps35
  go_wp2_with fail
  refine (eight_any n HN.out _).mono ?_
  rintro e w1 ⟨A1, C1, rfl, _, _, ⟨hs1, _⟩, hb1⟩
  have own0 := own_below (own_new w #[.int .u8 0] 5 (Nat.le_refl _) (by unfold maxLen; simp)) hb1
  have hb2 := on_below (below_new' w (.cells #[.int .u8 0] 5)) hb1
  clear hb1
  go_wp2_with (at_builtin; refine wpList_append_sk _ rfl (.tmp 3) (.tmp 5) 22 rfl w.heap.size 5 i0 .u8 1 Tryd.underlying22 hi0 hz0 hz1 hz2 _ (1) ([.int .u8 0]) rfl own0 A1 C1 (be8 n) rfl hs1 (by unfold maxLen; simp only [be8_len]; omega) (by simp only [be8_len]; omega) (hb2).size ?_; intro v2 w2 own2 gr2 _; have b2 := app_below (hb2) (hb2).size own0 (Nat.le_refl _) gr2)
  obtain ⟨A2, C2, rfl, _, _, hs2, _⟩ := own_sk (xs := leafB n) own2
  clear own0 own2 gr2 hb2 hs1
  refine (rsum_any A2 C2 (leafB n) _ (by simp [leafB, be8]) hs2).mono ?_
  rintro e w' ⟨rfl, rfl⟩
  go_wp2_with fail
  go_ret
  exact ⟨rfl, b2⟩

set_option maxRecDepth 100000 in
set_option maxHeartbeats 1000000 in
theorem rpair_any (a b : Int) (ha : U64 a) (hb : U64 b) (w : World) :
    Calls Tryd.prog 36 #[.int .u64 a, .int .u64 b] w fun e w' => e = .returned (.int .u64 (pairN a b)) ∧ Below w.heap.size w w' := by
  obtain ⟨i0, hi0, hz0, hz1, hz2⟩ := info_parts u8_info
  have HA := Lib.hid ha
  have HB := Lib.hid hb
  clear ha hb
  go_enter Tryd.func36, Tryd.ntmps36
  go_wp2_with fail
  refine (eight_any a HA.out _).mono ?_
  rintro e w1 ⟨A1, C1, rfl, _, _, ⟨hs1, _⟩, hb1⟩
  have own0 := own_below (own_new w #[.int .u8 1] 5 (Nat.le_refl _) (by unfold maxLen; simp)) hb1
  have hb2 := on_below (below_new' w (.cells #[.int .u8 1] 5)) hb1
  clear hb1
  go_wp2_with (at_builtin; refine wpList_append_sk _ rfl (.tmp 6) (.tmp 8) 22 rfl w.heap.size 5 i0 .u8 1 Tryd.underlying22 hi0 hz0 hz1 hz2 _ (1) ([.int .u8 1]) rfl own0 A1 C1 (be8 a) rfl hs1 (by unfold maxLen; simp only [be8_len]; omega) (by simp only [be8_len]; omega) (hb2).size ?_; intro v2 w2 own2 gr2 _; have b2 := app_below (hb2) (hb2).size own0 (Nat.le_refl _) gr2)
  clear own0 gr2 hb2 hs1
  refine (eight_any b HB.out _).mono ?_
  rintro e w3 ⟨A3, C3, rfl, _, _, ⟨hs3, _⟩, hb3⟩
  have own3 := own_below own2 hb3
  have hb4 := on_below b2 hb3
  clear hb3 own2 b2
  go_wp2_with (at_builtin; refine wpList_append_sk _ rfl (.tmp 10) (.tmp 12) 22 rfl w.heap.size 5 i0 .u8 1 Tryd.underlying22 hi0 hz0 hz1 hz2 _ (1 + (be8 a).length) ([Value.int .u8 1] ++ (be8 a).map (Value.int .u8)) rfl own3 A3 C3 (be8 b) rfl hs3 (by unfold maxLen; simp only [be8_len]; omega) (by simp only [be8_len]; omega) (hb4).size ?_; intro v5 w5 own5 gr5 _; have b5 := app_below (hb4) (hb4).size own3 (Nat.le_refl _) gr5)
  obtain ⟨A2, C2, rfl, _, _, hs2, _⟩ := own_sk (xs := pairB a b) (by simpa [pairB] using own5)
  clear own3 own5 gr5 hb4 hs3
  refine (rsum_any A2 C2 (pairB a b) _ (by simp [pairB, be8]) hs2).mono ?_
  rintro e w' ⟨rfl, rfl⟩
  go_wp2_with fail
  go_ret
  exact ⟨rfl, b5⟩

theorem txs_len {xs : List Int} (h : ∀ x ∈ xs, I64 x) : (txs xs).length ≤ 22 * xs.length := by
  induction xs with
  | nil => simp [txs]
  | cons x r ih =>
    have h1 := txI_len (h x (by simp))
    have h2 := ih fun y hy => h y (by simp [hy])
    unfold txs at h2 ⊢
    simp only [List.flatMap_cons, List.length_append, List.length_cons, List.length_nil] at h2 ⊢
    omega

set_option maxRecDepth 100000 in
set_option maxHeartbeats 1000000 in
theorem rints_any (A : Option Addr) (C : Nat) (xs : List Int) (w : World) (hl : xs.length ≤ 1000) (hi : ∀ x ∈ xs, I64 x) (h : Sk .i64 w A xs) :
    Calls Tryd.prog 14 #[.slice A xs.length C] w fun e w' => e = .returned (.int .u64 (dig (txs xs))) ∧ Below w.heap.size w w' := by
  obtain ⟨i0, hi0, hz0, hz1, hz2⟩ := info_parts u8_info
  have H := Lib.hid h
  have HT := Lib.hid (fun k (hk : k < xs.length) => hi _ (getD_mem hk))
  have HL := Lib.hid (fun k => txs_len (xs := xs.take k) fun x hx => hi x (List.mem_of_mem_take hx))
  clear h hi
  go_enter Tryd.func14, Tryd.ntmps14
  go_wp2_with fail
  go_loopw [3, 4] (fun v i wr => ∃ (k n : Nat), k ≤ xs.length ∧ i = .int .i64 k ∧ n ≤ 22 * k ∧ wr.ownsRow w.heap.size 5 1 v n ((txs (xs.take k)).map (Value.int .u8)) ∧ Below w.heap.size w wr) (fun _ i _ => xs.length - (intOf i).toNat)
  case atStart => exact ⟨0, 0, Nat.zero_le _, rfl, Nat.le_refl _, World.ownsRow_nil _ _ _ _, Below.refl _ _⟩
  case round =>
    obtain ⟨k, n, hk, rfl, hn, hown, hb⟩ := hrel
    by_cases hlt : k < xs.length
    · obtain ⟨b, o, rfl, hc0⟩ := H.out k hlt
      have hc : wr.cell? ⟨b, o + k, none⟩ = some (.int .i64 (gd xs k)) := cell_on hb (block_lt hc0) hc0
      have HI := Lib.hid (HT.out k hlt)
      have hz := itS_size _ HI.out
      have HN := Lib.hid (show (txs (xs.take k)).map (Value.int .u8) ++ Lib.strCells (itS (gd xs k)) ++ [.int .u8 32] = (txs (xs.take (k + 1))).map (Value.int .u8) by rw [txs_take hlt, strB_cells, txI_it]; simp)
      generalize gd xs k = x at *
      have HD := Lib.hid (fun W => dec_any x HI.out W)
      generalize itS x = T at *
      generalize (txs (xs.take k)).map (Value.int .u8) = M at *
      clear hc0
      go_wp2_with fail
      refine (HD.out _).mono ?_
      rintro e w1 ⟨rfl, hb1⟩
      have own1 := own_below hown hb1
      have hB := on_below hb hb1
      clear hb hb1 hown hc
      go_wp2_with (first
        | (at_builtin; refine Lib.wpList_append_own_string _ rfl (.tmp 11) (.tmp 16) 22 9 rfl w.heap.size 5 i0 Tryd.underlying22 Tryd.underlying9 hi0 hz0 hz1 hz2 _ n M rfl own1 T rfl (by unfold maxLen; omega) (by omega) hB.size ?_; intro v2 w2 own2 gr2 _; have b2 := app_below hB hB.size own1 (Nat.le_refl _) gr2)
        | (at_builtin; (refine wpList_append_own _ rfl (.tmp 18) (.tmp 19) 22 rfl w.heap.size 5 i0 (.int .u8 0) 1 1 Tryd.underlying22 hi0 hz0 hz1 hz2 rfl (by decide) _ _ _ rfl (own2.alloc _) ⟨w2.heap.size, 0, none⟩ 1 1 [.int .u8 32] rfl rfl (new_k _ _ _) one_k (by unfold maxLen; omega) (by omega) (by have := b2.size; simp <;> omega) ?_; intro v3 w3 own3 gr3 nn3; clear nn3; have b3 := app_below (b2.alloc (by have := b2.size; omega) _) (by have := b2.size; simp <;> omega) (own2.alloc _) (Nat.le_refl _) gr3; clear gr3)))
      rw [HN.out] at own3
      go_roundw
      case rel => exact ⟨k + 1, n + T.size + 1, by omega, by go_num, by omega, own3, b3⟩
      case measure => simp [intOf]; omega
    · rw [List.take_of_length_le (by omega)] at hown
      obtain ⟨A2, C2, rfl, _, _, hs2, _⟩ := own_sk hown
      have hlen : (txs xs).length ≤ 22000 := by have := HL.out xs.length; rw [List.take_of_length_le (Nat.le_refl _)] at this; omega
      go_wp2_with fail
      refine (rsum_any A2 C2 (txs xs) _ (by omega) hs2).mono ?_
      rintro e w' ⟨rfl, rfl⟩
      go_wp2_with fail
      go_ret
      exact ⟨rfl, hb⟩
end Go.Proofs.YtpplpnmammpkpaaDoor
