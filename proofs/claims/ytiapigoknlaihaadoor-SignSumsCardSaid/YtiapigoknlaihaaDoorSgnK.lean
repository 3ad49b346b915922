/-
  The reference of package digest: Sum, Decimal, Ints (out of the texts of layer 5).
-/
import Derived.Test.YtiapigoknlaihaaDoorSgnJ
import Derived.Laws.BytesArg
import Derived.Deep.RegionWith
namespace Go.Proofs.YtiapigoknlaihaaDoor
open Go.RowKit Go.Sort
open Go.RowKit (Below)
set_option linter.unusedVariables false
set_option linter.unusedSimpArgs false

theorem u8_info : (Tryd.prog.info? 5).map (fun i => (i.zero, i.size, i.bytes)) = some (some (.int .u8 0), 1, 1) := by kernel_rfl
set_option maxHeartbeats 400000 in
theorem rsum_any (A : Option Addr) (C : Nat) (xs : List Int) (w : World) (hl : xs.length ≤ 9223372036854775807) (hs : Sk .u8 w A xs) :
    Calls Tryd.prog 36 #[.slice A xs.length C] w fun e w' => e = .returned (.int .u64 (dig xs)) ∧ w = w' := by
  have HS := Lib.hid hs
  have HT := Lib.hid (fun j (hj : j < xs.length) => fnv_take 14695981039346656037 hj)
  clear hs
  go_enter Tryd.func36, Tryd.ntmps36
  go_wp2
  go_loop [3, 4] (fun t i => ∃ k : Nat, k ≤ xs.length ∧ i = .int .i64 k ∧ t = .int .u64 (dig (xs.take k))) (fun _ i => xs.length - (intOf i).toNat)
  case atStart => exact ⟨0, Nat.zero_le _, rfl, rfl⟩
  case round =>
    obtain ⟨k, hk, rfl, rfl⟩ := hrel
    by_cases hlt : k < xs.length
    · obtain ⟨b, o, rfl, hc⟩ := HS.out k hlt
      have HE := Lib.hid (show dig (xs.take (k + 1)) = stp (dig (xs.take k)) (gd xs k) from HT.out k hlt)
      generalize dig (xs.take k) = g at *
      generalize gd xs k = c at *
      go_wp2
      go_round
      case rel => exact ⟨k + 1, by omega, by go_num, by rw [HE.out]; exact ret_val (by unfold stp; rfl)⟩
      case measure => simp [intOf]; omega
    · rw [List.take_of_length_le (by omega)]
      go_wp2
      go_ret
      exact ⟨rfl, rfl⟩
theorem conv_one (W : World) (b : Nat) (x : Int) (h : W.cell? ⟨b, 0, none⟩ = some (.int .u8 x)) : (convert 53 9 (.slice (some ⟨b, 0, none⟩) 1 1)).run Tryd.prog W = .ok (.string (strOfNums [x])) W :=
  run_convert_bytes_arg W _ 5 Tryd.underlying53 Tryd.underlying5 b 0 1 1 [x] rfl (by
    intro i hi
    obtain rfl : i = 0 := by omega
    exact h) _ Tryd.underlying9
theorem below_new' (w : World) (o : Obj) : Below w.heap.size w (w.alloc o) := (Below.refl _ _).alloc (Nat.le_refl _) _
theorem dec_b0 {w w1 : World} {o : Obj} (h : Below w.drew.heap.size w.drew w1) : Below w.heap.size w (w1.alloc o) := (undrew_b h).alloc (undrew_b h).size _
theorem dec_b1 {w w1 : World} {o : Obj} (h : Below (w.alloc o).drew.heap.size (w.alloc o).drew w1) : Below w.heap.size w w1 := on_below (below_new' w o) (undrew_b h)
theorem itS_ext {a : ByteArray} {n : Int} (h : a.data.toList = Lib.itoa n) : a = itS n := by
  unfold itS
  rw [← h]
theorem digits_step (m : Nat) (h : 10 ≤ m) : Lib.decDigits m = Lib.decDigits (m / 10) ++ [UInt8.ofNat (48 + m % 10)] := by
  rw [Lib.decDigits, dif_neg (by omega)]
theorem digits_one (m : Nat) (h : m < 10) : Lib.decDigits m = [UInt8.ofNat (48 + m)] := by
  rw [Lib.decDigits, dif_pos h]
theorem it_big {m : Nat} (h : 10 ≤ m) : itS ((m / 10 : Nat) : Int) ++ strOfNums [48 + (m : Int) % 10] = itS (m : Int) := by
  apply itS_ext
  have e : (strOfNums [48 + (m : Int) % 10]).data.toList = [UInt8.ofNat (48 + m % 10)] := by
    rw [strOfNums_data]
    have : (48 + (m : Int) % 10).toNat = 48 + m % 10 := by omega
    simp [this]
  simp only [ByteArray.data_append, Array.toList_append, e]
  unfold itS Lib.itoa
  rw [if_neg (by omega), if_neg (by omega)]
  simp only [Int.toNat_natCast]
  rw [digits_step m h]
theorem it_small {m : Nat} (h : m < 10) : strOfNums [48 + (m : Int)] = itS (m : Int) := by
  apply itS_ext
  rw [strOfNums_data]
  unfold Lib.itoa
  rw [if_neg (by omega), Int.toNat_natCast, digits_one m h]
  have : (48 + (m : Int)).toNat = 48 + m := by omega
  simp [this]
theorem it_neg {m : Nat} (h : 0 < m) (h2 : m < 10) : (⟨#[45]⟩ : ByteArray) ++ strOfNums [48 + (m : Int)] = itS (-(m : Int)) := by
  apply itS_ext
  have e : (strOfNums [48 + (m : Int)]).data.toList = [UInt8.ofNat (48 + m)] := by
    rw [strOfNums_data]
    have : (48 + (m : Int)).toNat = 48 + m := by omega
    simp [this]
  simp only [ByteArray.data_append, Array.toList_append, e]
  unfold Lib.itoa
  rw [if_pos (by omega), show (-(m : Int)).natAbs = m by omega, digits_one m h2]
  rfl
theorem it_negbig {m : Nat} (h : 10 ≤ m) : itS (-((m / 10 : Nat) : Int)) ++ strOfNums [48 + (m : Int) % 10] = itS (-(m : Int)) := by
  apply itS_ext
  have e : (strOfNums [48 + (m : Int) % 10]).data.toList = [UInt8.ofNat (48 + m % 10)] := by
    rw [strOfNums_data]
    have : (48 + (m : Int) % 10).toNat = 48 + m % 10 := by omega
    simp [this]
  simp only [ByteArray.data_append, Array.toList_append, e]
  unfold itS Lib.itoa
  rw [if_pos (by omega), if_pos (by omega), show (-(m : Int)).natAbs = m by omega, show (-((m / 10 : Nat) : Int)).natAbs = m / 10 by omega, digits_step m h]
  simp

set_option maxRecDepth 100000 in
set_option maxHeartbeats 1000000 in
theorem dec_small (m : Nat) (h : m < 10) (w : World) :
    Calls Tryd.prog 35 #[.int .i64 m] w fun e w' => e = .returned (.string (itS m)) ∧ Below w.heap.size w w' := by
  have HE := Lib.hid (it_small h)
  have hcv := fun W b hc => conv_one W b (48 + (m : Int)) hc
  have h1 : decide ((m : Int) < 0) = false := by simp
  have h2 : decide ((m : Int) < 10) = true := by simp; omega
  go_enter Tryd.func35, Tryd.ntmps35
  go_wp2_with fail
  go_ret
  exact ⟨ret_str HE.out, below_new' _ _⟩

theorem itS_le {n : Int} (h : I64 n) : (itS n).size ≤ 21 := itS_size n h
set_option maxRecDepth 100000 in
set_option maxHeartbeats 1000000 in
theorem dec_neg (m : Nat) (h : 0 < m) (h9 : m < 10) (w : World) :
    Calls Tryd.prog 35 #[.int .i64 (-(m : Int))] w fun e w' => e = .returned (.string (itS (-(m : Int)))) ∧ Below w.heap.size w w' := by
  have HE := Lib.hid (it_neg h h9)
  have hcv := fun W b hc => conv_one W b (48 + (m : Int)) hc
  have ca : ∀ W, (Op.stringOp .add ⟨#[45]⟩ (strOfNums [48 + (m : Int)])).run Tryd.prog W = .ok (.string (⟨#[45]⟩ ++ strOfNums [48 + (m : Int)])) W := fun W => add_run _ _ (by rw [strOfNums_size]; have h0 : (⟨#[45]⟩ : ByteArray).size = 1 := rfl; simp; omega) W
  have h1 : decide (-(m : Int) < 0) = true := by simp; omega
  have h2 : ((-(m : Int)).tdiv 10 == 0) = true := by rw [beq_iff_eq, Int.neg_tdiv, Int.tdiv_eq_ediv_of_nonneg (by omega)]; omega
  have h3 : ((m : Int) / 10 == 0) = true := by rw [beq_iff_eq]; omega
  have h5 : (-((m : Int) / 10) == 0) = true := by rw [beq_iff_eq]; omega
  go_enter Tryd.func35, Tryd.ntmps35
  go_wp2_with fail
  go_ret
  exact ⟨ret_str HE.out, below_new' _ _⟩

set_option maxRecDepth 100000 in
set_option maxHeartbeats 1000000 in
theorem dec_big (m : Nat) (h : 10 ≤ m) (hm : m ≤ 9223372036854775807) (w : World) (ih : ∀ w, Calls Tryd.prog 35 #[.int .i64 ((m : Int) / 10)] w fun e w' => e = .returned (.string (itS ((m / 10 : Nat) : Int))) ∧ Below w.heap.size w w') :
    Calls Tryd.prog 35 #[.int .i64 m] w fun e w' => e = .returned (.string (itS m)) ∧ Below w.heap.size w w' := by
  have IH := Lib.hid ih
  clear ih
  have hz := itS_le (n := ((m / 10 : Nat) : Int)) ⟨by omega, by omega⟩
  have hE := it_big h
  have hcv := fun W b hc => conv_one W b (48 + (m : Int) % 10) hc
  have ca : ∀ W, (Op.stringOp .add (itS ((m / 10 : Nat) : Int)) (strOfNums [48 + (m : Int) % 10])).run Tryd.prog W = .ok (.string (itS (m : Int))) W := fun W => by rw [← hE]; exact add_run _ _ (by rw [strOfNums_size]; exact Nat.le_trans (Nat.add_le_add_right hz _) (by simp)) W
  generalize itS ((m / 10 : Nat) : Int) = T at *
  generalize itS (m : Int) = R at *
  have h1 : decide ((m : Int) < 0) = false := by simp
  have h2 : decide ((m : Int) < 10) = false := by simp; omega
  have f1 : IntKind.i64.wrap ((m : Int) / 10) = (m : Int) / 10 := IntWalk.i64_in _ ⟨by omega, by omega⟩
  have f2 : ((m : Int)).tmod 10 = (m : Int) % 10 := Int.tmod_eq_emod_of_nonneg (by omega)
  have f3 : IntKind.i64.wrap (48 + (m : Int) % 10) = 48 + (m : Int) % 10 := IntWalk.i64_in _ ⟨by omega, by omega⟩
  have f4 : IntKind.u8.wrap (48 + (m : Int) % 10) = 48 + (m : Int) % 10 := by rw [IntKind.wrap_u8']; omega
  clear hE hz h hm
  go_enter Tryd.func35, Tryd.ntmps35
  go_wp2_with fail
  go_region_with (first | (go_at_call 35; (with_reducible refine (IH.out _).mono ?_); rintro e w1 ⟨rfl, hb1⟩; have hb1' := hb1; obtain ⟨hcc, hff⟩ := bcell hb1'))
  all_goals
    clear f1 f2 f3 f4 hcv ca hcc hff hb1
    go_wp2_with fail
    go_ret
    exact ⟨rfl, by first | exact dec_b0 hb1' | exact dec_b1 hb1'⟩

set_option maxRecDepth 100000 in
set_option maxHeartbeats 1000000 in
theorem dec_negbig (m : Nat) (h : 10 ≤ m) (hm : m ≤ 9223372036854775808) (w : World) (ih : ∀ w, Calls Tryd.prog 35 #[.int .i64 (-((m : Int) / 10))] w fun e w' => e = .returned (.string (itS (-((m / 10 : Nat) : Int)))) ∧ Below w.heap.size w w') :
    Calls Tryd.prog 35 #[.int .i64 (-(m : Int))] w fun e w' => e = .returned (.string (itS (-(m : Int)))) ∧ Below w.heap.size w w' := by
  have IH := Lib.hid ih
  clear ih
  have hz := itS_le (n := -((m / 10 : Nat) : Int)) ⟨by omega, by omega⟩
  have hE := it_negbig h
  have hcv := fun W b hc => conv_one W b (48 + (m : Int) % 10) hc
  have ca : ∀ W, (Op.stringOp .add (itS (-((m / 10 : Nat) : Int))) (strOfNums [48 + (m : Int) % 10])).run Tryd.prog W = .ok (.string (itS (-(m : Int)))) W := fun W => by rw [← hE]; exact add_run _ _ (by rw [strOfNums_size]; exact Nat.le_trans (Nat.add_le_add_right hz _) (by simp)) W
  generalize itS (-((m / 10 : Nat) : Int)) = T at *
  generalize itS (-(m : Int)) = R at *
  have h1 : decide (-(m : Int) < 0) = true := by simp; omega
  have h5 : (-((m : Int) / 10) == 0) = false := by rw [beq_eq_false_iff_ne]; omega
  have f1 : IntKind.i64.wrap (-((m : Int) / 10)) = -((m : Int) / 10) := IntWalk.i64_in _ ⟨by omega, by omega⟩
  have f2 : (-(m : Int)).tmod 10 = -((m : Int) % 10) := by rw [Int.neg_tmod, Int.tmod_eq_emod_of_nonneg (by omega)]
  have f2' : ((m : Int)).tmod 10 = (m : Int) % 10 := Int.tmod_eq_emod_of_nonneg (by omega)
  have f0 : ((m : Int)).tdiv 10 = (m : Int) / 10 := Int.tdiv_eq_ediv_of_nonneg (by omega)
  have f3 : IntKind.i64.wrap (48 + (m : Int) % 10) = 48 + (m : Int) % 10 := IntWalk.i64_in _ ⟨by omega, by omega⟩
  have f5 : 48 - -((m : Int) % 10) = 48 + (m : Int) % 10 := by omega
  have f4 : IntKind.u8.wrap (48 + (m : Int) % 10) = 48 + (m : Int) % 10 := by rw [IntKind.wrap_u8']; omega
  have h0 : 0 < m := by omega
  clear hE hz h hm
  go_enter Tryd.func35, Tryd.ntmps35
  go_wp2_with fail
  go_region_with (first | (go_at_call 35; (with_reducible refine (IH.out _).mono ?_); rintro e w1 ⟨rfl, hb1⟩; have hb1' := hb1; obtain ⟨hcc, hff⟩ := bcell hb1'))
  all_goals
    clear f0 f1 f2 f2' f3 f4 f5 hcv ca hcc hff hb1
    go_wp2_with fail
    go_ret
    exact ⟨rfl, by first | exact dec_b0 hb1' | exact dec_b1 hb1'⟩

/-- Decimal, of any int. -/
theorem dec_pos : ∀ (k m : Nat), m < 10 ^ (k + 1) → m ≤ 9223372036854775807 → ∀ w, Calls Tryd.prog 35 #[.int .i64 m] w fun e w' => e = .returned (.string (itS m)) ∧ Below w.heap.size w w'
  | 0, m, h, _, w => dec_small m (by simpa using h) w
  | k + 1, m, h, hm, w => by
    by_cases h9 : m < 10
    · exact dec_small m h9 w
    · exact dec_big m (by omega) hm w fun w => by
        have := dec_pos k (m / 10) (by rw [Nat.pow_succ] at h; omega) (by omega) w
        rwa [Int.natCast_ediv] at this
theorem dec_min : ∀ (k m : Nat), m < 10 ^ (k + 1) → 0 < m → m ≤ 9223372036854775808 → ∀ w, Calls Tryd.prog 35 #[.int .i64 (-(m : Int))] w fun e w' => e = .returned (.string (itS (-(m : Int)))) ∧ Below w.heap.size w w'
  | 0, m, h, h0, _, w => dec_neg m h0 (by simpa using h) w
  | k + 1, m, h, h0, hm, w => by
    by_cases h9 : m < 10
    · exact dec_neg m h0 h9 w
    · exact dec_negbig m (by omega) hm w fun w => by
        have := dec_min k (m / 10) (by rw [Nat.pow_succ] at h; omega) (by omega) (by omega) w
        rwa [Int.natCast_ediv] at this
theorem dec_any (n : Int) (h : I64 n) (w : World) : Calls Tryd.prog 35 #[.int .i64 n] w fun e w' => e = .returned (.string (itS n)) ∧ Below w.heap.size w w' := by
  obtain ⟨h1, h2⟩ := h
  by_cases hn : 0 ≤ n
  · obtain ⟨m, rfl⟩ := Int.eq_ofNat_of_zero_le hn
    exact dec_pos 19 m (by omega) (by omega) w
  · obtain ⟨m, hm⟩ := Int.eq_ofNat_of_zero_le (show 0 ≤ -n by omega)
    obtain rfl : n = -(m : Int) := by omega
    exact dec_min 19 m (by omega) (by omega) (by omega) w
theorem txs_len {xs : List Int} (h : ∀ x ∈ xs, I64 x) : (txs xs).length ≤ 22 * xs.length := by
  induction xs with
  | nil => simp [txs]
  | cons x r ih =>
    have h1 := txI_len (h x (by simp))
    have h2 := ih fun y hy => h y (by simp [hy])
    unfold txs at h2 ⊢
    simp only [List.flatMap_cons, List.length_append, List.length_cons, List.length_nil] at h2 ⊢
    omega
set_option maxRecDepth 100000 in
set_option maxHeartbeats 1000000 in
theorem rints_any (A : Option Addr) (C : Nat) (xs : List Int) (w : World) (hl : xs.length ≤ 1000) (hi : ∀ x ∈ xs, I64 x) (h : Sk .i64 w A xs) :
    Calls Tryd.prog 31 #[.slice A xs.length C] w fun e w' => e = .returned (.int .u64 (dig (txs xs))) ∧ Below w.heap.size w w' := by
  obtain ⟨i0, hi0, hz0, hz1, hz2⟩ := info_parts u8_info
  have H := Lib.hid h
  have HT := Lib.hid (fun k (hk : k < xs.length) => hi _ (getD_mem hk))
  have HL := Lib.hid (fun k => txs_len (xs := xs.take k) fun x hx => hi x (List.mem_of_mem_take hx))
  clear h hi
  go_enter Tryd.func31, Tryd.ntmps31
  go_wp2_with fail
  go_loopw [3, 4] (fun v i wr => ∃ (k n : Nat), k ≤ xs.length ∧ i = .int .i64 k ∧ n ≤ 22 * k ∧ wr.ownsRow w.heap.size 5 1 v n ((txs (xs.take k)).map (Value.int .u8)) ∧ Below w.heap.size w wr) (fun _ i _ => xs.length - (intOf i).toNat)
  case atStart => exact ⟨0, 0, Nat.zero_le _, rfl, Nat.le_refl _, World.ownsRow_nil _ _ _ _, Below.refl _ _⟩
  case round =>
    obtain ⟨k, n, hk, rfl, hn, hown, hb⟩ := hrel
    by_cases hlt : k < xs.length
    · obtain ⟨b, o, rfl, hc0⟩ := H.out k hlt
      have hc : wr.cell? ⟨b, o + k, none⟩ = some (.int .i64 (gd xs k)) := cell_on hb (block_lt hc0) hc0
      have HI := Lib.hid (HT.out k hlt)
      have hz := itS_size _ HI.out
      have HN := Lib.hid (show (txs (xs.take k)).map (Value.int .u8) ++ Lib.strCells (itS (gd xs k)) ++ [.int .u8 32] = (txs (xs.take (k + 1))).map (Value.int .u8) by rw [txs_take hlt, strB_cells, txI_it]; simp)
      generalize gd xs k = x at *
      have HD := Lib.hid (fun W => dec_any x HI.out W)
      generalize itS x = T at *
      generalize (txs (xs.take k)).map (Value.int .u8) = M at *
      clear hc0
      go_wp2_with fail
      refine (HD.out _).mono ?_
      rintro e w1 ⟨rfl, hb1⟩
      have own1 := own_below hown hb1
      have hB := on_below hb hb1
      clear hb hb1 hown hc
      go_wp2_with (first
        | (at_builtin; refine Lib.wpList_append_own_string _ rfl (.tmp 11) (.tmp 16) 53 9 rfl w.heap.size 5 i0 Tryd.underlying53 Tryd.underlying9 hi0 hz0 hz1 hz2 _ n M rfl own1 T rfl (by unfold maxLen; omega) (by omega) hB.size ?_; intro v2 w2 own2 gr2 _; have b2 := app_below hB hB.size own1 (Nat.le_refl _) gr2)
        | (at_builtin; (refine wpList_append_own _ rfl (.tmp 18) (.tmp 19) 53 rfl w.heap.size 5 i0 (.int .u8 0) 1 1 Tryd.underlying53 hi0 hz0 hz1 hz2 rfl (by decide) _ _ _ rfl (own2.alloc _) ⟨w2.heap.size, 0, none⟩ 1 1 [.int .u8 32] rfl rfl (new_k _ _ _) one_k (by unfold maxLen; omega) (by omega) (by have := b2.size; simp <;> omega) ?_; intro v3 w3 own3 gr3 nn3; clear nn3; have b3 := app_below (b2.alloc (by have := b2.size; omega) _) (by have := b2.size; simp <;> omega) (own2.alloc _) (Nat.le_refl _) gr3; clear gr3)))
      rw [HN.out] at own3
      go_roundw
      case rel => exact ⟨k + 1, n + T.size + 1, by omega, by go_num, by omega, own3, b3⟩
      case measure => simp [intOf]; omega
    · rw [List.take_of_length_le (by omega)] at hown
      obtain ⟨A2, C2, rfl, _, _, hs2, _⟩ := own_sk hown
      have hlen : (txs xs).length ≤ 22000 := by have := HL.out xs.length; rw [List.take_of_length_le (Nat.le_refl _)] at this; omega
      go_wp2_with fail
      refine (rsum_any A2 C2 (txs xs) _ (by omega) hs2).mono ?_
      rintro e w' ⟨rfl, rfl⟩
      go_wp2_with fail
      go_ret
      exact ⟨rfl, hb⟩
end Go.Proofs.YtiapigoknlaihaaDoor
