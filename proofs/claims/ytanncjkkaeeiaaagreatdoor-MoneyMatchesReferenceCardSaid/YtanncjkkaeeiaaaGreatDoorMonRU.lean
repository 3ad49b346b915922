/-
  The reference of package money: Add, Scale and Exchange answer as those of package money do.
-/
import Derived.Test.YtanncjkkaeeiaaaGreatDoorMonT
namespace Go.Proofs.YtanncjkkaeeiaaaGreatDoor
open Go.RowKit Go.Sort
open Go.RowKit (Below)
set_option linter.unusedVariables false

set_option maxHeartbeats 400000 in
theorem refadd_any (A : Option Addr) (c : Nat) (xs : List Int) (w : World) (hl : xs.length ≤ 100) (h : Sl w A xs) :
    Calls Tryz.prog 7 #[.slice A xs.length c] w fun e w' => e = .returned (.tuple #[.int .i64 (addN xs), .int .i64 (addE xs)]) ∧ w = w' := by
  have HS := Lib.hid (sum_step xs)
  have H := Lib.hid h
  clear h
  go_enter Tryz.func7, Tryz.ntmps7
  go_wp2
  go_loop [4, 5] (fun t i => ∃ k : Nat, k ≤ xs.length ∧ i = .int .i64 k ∧ t = .int .i64 (xs.take k).sum ∧ Hid (∀ j, j < k → am (gd xs j) = true)) (fun _ i => xs.length - (intOf i).toNat)
  case atStart => exact ⟨0, Nat.zero_le _, rfl, rfl, fun j hj => absurd hj (Nat.not_lt_zero j)⟩
  case round =>
    obtain ⟨k, hk, rfl, rfl, HK⟩ := hrel
    have hb : -(1000000000 * k) ≤ (xs.take k).sum ∧ (xs.take k).sum ≤ 1000000000 * k := by
      have := sum_bd (m := 1000000000) (xs.take k) fun x hx => by
        obtain ⟨j, hj, rfl⟩ := List.getElem_of_mem hx
        have h1 : j < k := by have := List.length_take_le k xs; omega
        have h2 : j < xs.length := by omega
        have := HK.out j h1
        rw [gd_at h2, am_iff] at this
        simpa using this
      have h2 : (xs.take k).length = k := by simp; omega
      rwa [h2] at this
    by_cases hlt : k < xs.length
    · obtain ⟨b, o, rfl, hc⟩ := H.out k hlt
      have HM := Lib.hid (getD_mem hlt)
      have HE := Lib.hid (HS.out k hlt)
      cases ha : am (gd xs k) with
      | false =>
        have HA := Lib.hid ha
        clear ha
        go_wp2_with (go_at_call 21; refine (refam_b _ false HA.out _).mono ?_; rintro e w' ⟨rfl, rfl⟩)
        go_ret2
        exact ⟨ret_two (by rw [addN, if_neg (all_no HM.out HA.out)]) (by rw [addE, if_neg (all_no HM.out HA.out)]), rfl⟩
      | true =>
        have h1 := am_iff.1 ha
        have HA := Lib.hid ha
        clear ha
        go_wp2_with (go_at_call 21; refine (refam_b _ true HA.out _).mono ?_; rintro e w' ⟨rfl, rfl⟩)
        go_round
        case rel => exact ⟨k + 1, by omega, by go_num, by rw [HE.out], fun j hj => by
              by_cases e : j = k
              · subst e; exact HA.out
              · exact HK.out j (by omega)⟩
        case measure => simp [intOf]; omega
    · have ha : xs.all am = true := by
        rw [List.all_eq_true]
        intro x hx
        obtain ⟨j, hj, rfl⟩ := List.getElem_of_mem hx
        have := HK.out j (by omega)
        rwa [gd_at hj] at this
      have HA := Lib.hid ha
      clear ha
      have he := sum_all xs k hlt
      rw [he] at hb ⊢
      clear he
      cases hs : am xs.sum with
      | false =>
        have HY := Lib.hid hs
        clear hs
        go_wp2_with (go_at_call 21; refine (refam_b _ false HY.out _).mono ?_; rintro e w' ⟨rfl, rfl⟩)
        go_ret2
        exact ⟨ret_two (by rw [addN, if_pos HA.out, rsN, if_neg (by simp [HY.out])]) (by rw [addE, if_pos HA.out, rsE, if_neg (by simp [HY.out])]), rfl⟩
      | true =>
        have HY := Lib.hid hs
        clear hs
        go_wp2_with (go_at_call 21; refine (refam_b _ true HY.out _).mono ?_; rintro e w' ⟨rfl, rfl⟩)
        go_ret2
        exact ⟨ret_two (by rw [addN, if_pos HA.out, rsN, if_pos HY.out]) (by rw [addE, if_pos HA.out, rsE, if_pos HY.out]), rfl⟩

/-- The rounding as the reference does it. -/
theorem rnd_nn {s D : Int} (hs : 0 ≤ s) (hD : 1 ≤ D) : (D ≤ 2 * (s % D) → (2 * s + D) / (2 * D) = s / D + 1) ∧ (¬ D ≤ 2 * (s % D) → (2 * s + D) / (2 * D) = s / D) := by
  have h1 := Int.mul_ediv_add_emod s D
  have h2 := Int.emod_nonneg s (show D ≠ 0 by omega)
  have h3 := Int.emod_lt_of_pos s (show 0 < D by omega)
  generalize s / D = a at *
  generalize s % D = b at *
  have e : 2 * s + D = (2 * b + D) + (2 * D) * a := by rw [← h1, Int.mul_add, Int.mul_assoc]; omega
  rw [e, Int.add_mul_ediv_left _ _ (by omega)]
  refine ⟨fun h => ?_, fun h => ?_⟩
  · have : (2 * b + D) / (2 * D) = 1 := by
      rw [show 2 * b + D = (2 * b - D) + (2 * D) * 1 by omega, Int.add_mul_ediv_left _ _ (by omega), Int.ediv_eq_zero_of_lt (by omega) (by omega)]; rfl
    omega
  · have : (2 * b + D) / (2 * D) = 0 := Int.ediv_eq_zero_of_lt (by omega) (by omega)
    omega
theorem rnd_ref (p : Int) {D : Int} (hD : 1 ≤ D) :
    (p.tmod D < 0 → D ≤ -2 * p.tmod D → rnd p D = p.tdiv D - 1) ∧ (p.tmod D < 0 → ¬ D ≤ -2 * p.tmod D → rnd p D = p.tdiv D) ∧
    (0 < p.tmod D → D ≤ 2 * p.tmod D → rnd p D = p.tdiv D + 1) ∧ (0 < p.tmod D → ¬ D ≤ 2 * p.tmod D → rnd p D = p.tdiv D) ∧ (p.tmod D = 0 → rnd p D = p.tdiv D) := by
  have hs : 0 ≤ (p.natAbs : Int) := by omega
  obtain ⟨r1, r2⟩ := rnd_nn hs hD
  have hb := Int.emod_nonneg (p.natAbs : Int) (show D ≠ 0 by omega)
  by_cases hp : p < 0
  · have e : p = -(p.natAbs : Int) := by omega
    have e1 : p.tdiv D = -((p.natAbs : Int) / D) := by
      conv => lhs; rw [e]
      rw [Int.neg_tdiv, Int.tdiv_eq_ediv_of_nonneg hs]
    have e2 : p.tmod D = -((p.natAbs : Int) % D) := by
      conv => lhs; rw [e]
      rw [Int.neg_tmod, Int.tmod_eq_emod_of_nonneg hs]
    have e3 : rnd p D = -((2 * (p.natAbs : Int) + D) / (2 * D)) := by rw [rnd, sgd, if_pos hp]
    rw [e1, e2, e3]
    generalize (2 * (p.natAbs : Int) + D) / (2 * D) = x at *
    generalize (p.natAbs : Int) / D = a at *
    generalize (p.natAbs : Int) % D = b at *
    refine ⟨fun h1 h2 => ?_, fun h1 h2 => ?_, fun h1 h2 => ?_, fun h1 h2 => ?_, fun h1 => ?_⟩
    · have := r1 (by omega); omega
    · have := r2 (by omega); omega
    · omega
    · omega
    · have := r2 (by omega); omega
  · have e : p = (p.natAbs : Int) := by omega
    have e1 : p.tdiv D = (p.natAbs : Int) / D := by
      conv => lhs; rw [e]
      rw [Int.tdiv_eq_ediv_of_nonneg hs]
    have e2 : p.tmod D = (p.natAbs : Int) % D := by
      conv => lhs; rw [e]
      rw [Int.tmod_eq_emod_of_nonneg hs]
    have e3 : rnd p D = (2 * (p.natAbs : Int) + D) / (2 * D) := by rw [rnd, sgd, if_neg hp]
    rw [e1, e2, e3]
    generalize (2 * (p.natAbs : Int) + D) / (2 * D) = x at *
    generalize (p.natAbs : Int) / D = a at *
    generalize (p.natAbs : Int) % D = b at *
    refine ⟨fun h1 h2 => ?_, fun h1 h2 => ?_, fun h1 h2 => ?_, fun h1 h2 => ?_, fun h1 => ?_⟩
    · omega
    · omega
    · exact r1 h2
    · exact r2 h2
    · have := r2 (by omega); omega
theorem tm_bd (p : Int) {D : Int} (hD : 1 ≤ D) : -D < p.tmod D ∧ p.tmod D < D := by
  have hs : 0 ≤ (p.natAbs : Int) := by omega
  have h2 := Int.emod_nonneg (p.natAbs : Int) (show D ≠ 0 by omega)
  have h3 := Int.emod_lt_of_pos (p.natAbs : Int) (show 0 < D by omega)
  by_cases hp : p < 0
  · have e : p = -(p.natAbs : Int) := by omega
    have e2 : p.tmod D = -((p.natAbs : Int) % D) := by
      conv => lhs; rw [e]
      rw [Int.neg_tmod, Int.tmod_eq_emod_of_nonneg hs]
    omega
  · have e : p = (p.natAbs : Int) := by omega
    have e2 : p.tmod D = (p.natAbs : Int) % D := by
      conv => lhs; rw [e]
      rw [Int.tmod_eq_emod_of_nonneg hs]
    omega
theorem td_bd (p : Int) {D m : Int} (hD : 1 ≤ D) (h : -m ≤ p ∧ p ≤ m) : -m ≤ p.tdiv D ∧ p.tdiv D ≤ m := by
  have hs : 0 ≤ (p.natAbs : Int) := by omega
  have h1 : (p.natAbs : Int) / D ≤ p.natAbs := Int.ediv_le_self _ hs
  have h2 : 0 ≤ (p.natAbs : Int) / D := Int.ediv_nonneg hs (by omega)
  by_cases hp : p < 0
  · have e : p = -(p.natAbs : Int) := by omega
    have e1 : p.tdiv D = -((p.natAbs : Int) / D) := by
      conv => lhs; rw [e]
      rw [Int.neg_tdiv, Int.tdiv_eq_ediv_of_nonneg hs]
    omega
  · have e : p = (p.natAbs : Int) := by omega
    have e1 : p.tdiv D = (p.natAbs : Int) / D := by
      conv => lhs; rw [e]
      rw [Int.tdiv_eq_ediv_of_nonneg hs]
    omega

set_option maxRecDepth 100000 in
set_option maxHeartbeats 800000 in
theorem refscale_a (c N D : Int) (w : World) (hA : am c = true) (hv : vld N D = true) (hi : I64 N ∧ I64 D) (hD : 1 ≤ D) (hD2 : D ≤ 1000000000) (q : Int) (hq1 : -1000000000000000000 ≤ q) (hq2 : q ≤ 1000000000000000000) (hq : wrap64 ((wrap64 (c * N)).tdiv D) = q) (r : Int) (hr1 : -D < r) (hr2 : r < D) (hr : (wrap64 (c * N)).tmod D = r) (h1 : r < 0) (h2 : D ≤ -2 * r) :
    Calls Tryz.prog 9 #[.int .i64 c, .agg #[.int .i64 N, .int .i64 D]] w fun e w' => e = .returned (.tuple #[.int .i64 (rsN (q - 1)), .int .i64 (rsE (q - 1))]) ∧ Below w.heap.size w w' := by
  have HA := Lib.hid hA; have HV := Lib.hid hv; have HI := Lib.hid hi; have HQ := Lib.hid hq; have HR := Lib.hid hr
  clear hA hv hi hq hr
  go_enter Tryz.func9, Tryz.ntmps9
  go_wp2_with fail
  refine (refam_b _ true HA.out _).mono ?_
  rintro e w' ⟨rfl, rfl⟩
  go_wp2_with fail
  refine (refvalid_b _ _ true HV.out _ HI.out.1 HI.out.2).mono ?_
  rintro e w1 ⟨rfl, hb⟩
  have p := Pr.new hb
  have b1 := on_new (Below.refl w.heap.size w) hb
  have ⟨p0, p1⟩ := p
  have pl := p.lt
  clear hb
  go_upto_region 8 with fail
  rw [HQ.out, HR.out]
  cases ha : am (q - 1) with
  | true =>
    have HY := Lib.hid ha
    clear ha
    go_wp2_with (go_at_call 21; refine (refam_b _ true HY.out _).mono ?_; rintro e w' ⟨rfl, rfl⟩)
    go_ret2
    exact ⟨ret_two (by rw [rsN, if_pos HY.out]) (by rw [rsE, if_pos HY.out]), b1.1⟩
  | false =>
    have HY := Lib.hid ha
    clear ha
    go_wp2_with (go_at_call 21; refine (refam_b _ false HY.out _).mono ?_; rintro e w' ⟨rfl, rfl⟩)
    go_ret2
    exact ⟨ret_two (by rw [rsN, if_neg (by simp [HY.out])]) (by rw [rsE, if_neg (by simp [HY.out])]), b1.1⟩

set_option maxRecDepth 100000 in
set_option maxHeartbeats 800000 in
theorem refscale_b (c N D : Int) (w : World) (hA : am c = true) (hv : vld N D = true) (hi : I64 N ∧ I64 D) (hD : 1 ≤ D) (hD2 : D ≤ 1000000000) (q : Int) (hq1 : -1000000000000000000 ≤ q) (hq2 : q ≤ 1000000000000000000) (hq : wrap64 ((wrap64 (c * N)).tdiv D) = q) (r : Int) (hr1 : -D < r) (hr2 : r < D) (hr : (wrap64 (c * N)).tmod D = r) (h1 : r < 0) (h2 : ¬ D ≤ -2 * r) :
    Calls Tryz.prog 9 #[.int .i64 c, .agg #[.int .i64 N, .int .i64 D]] w fun e w' => e = .returned (.tuple #[.int .i64 (rsN (q)), .int .i64 (rsE (q))]) ∧ Below w.heap.size w w' := by
  have HA := Lib.hid hA; have HV := Lib.hid hv; have HI := Lib.hid hi; have HQ := Lib.hid hq; have HR := Lib.hid hr
  clear hA hv hi hq hr
  go_enter Tryz.func9, Tryz.ntmps9
  go_wp2_with fail
  refine (refam_b _ true HA.out _).mono ?_
  rintro e w' ⟨rfl, rfl⟩
  go_wp2_with fail
  refine (refvalid_b _ _ true HV.out _ HI.out.1 HI.out.2).mono ?_
  rintro e w1 ⟨rfl, hb⟩
  have p := Pr.new hb
  have b1 := on_new (Below.refl w.heap.size w) hb
  have ⟨p0, p1⟩ := p
  have pl := p.lt
  clear hb
  go_upto_region 8 with fail
  rw [HQ.out, HR.out]
  cases ha : am (q) with
  | true =>
    have HY := Lib.hid ha
    clear ha
    go_wp2_with (go_at_call 21; refine (refam_b _ true HY.out _).mono ?_; rintro e w' ⟨rfl, rfl⟩)
    go_ret2
    exact ⟨ret_two (by rw [rsN, if_pos HY.out]) (by rw [rsE, if_pos HY.out]), b1.1⟩
  | false =>
    have HY := Lib.hid ha
    clear ha
    go_wp2_with (go_at_call 21; refine (refam_b _ false HY.out _).mono ?_; rintro e w' ⟨rfl, rfl⟩)
    go_ret2
    exact ⟨ret_two (by rw [rsN, if_neg (by simp [HY.out])]) (by rw [rsE, if_neg (by simp [HY.out])]), b1.1⟩

set_option maxRecDepth 100000 in
set_option maxHeartbeats 800000 in
theorem refscale_c (c N D : Int) (w : World) (hA : am c = true) (hv : vld N D = true) (hi : I64 N ∧ I64 D) (hD : 1 ≤ D) (hD2 : D ≤ 1000000000) (q : Int) (hq1 : -1000000000000000000 ≤ q) (hq2 : q ≤ 1000000000000000000) (hq : wrap64 ((wrap64 (c * N)).tdiv D) = q) (r : Int) (hr1 : -D < r) (hr2 : r < D) (hr : (wrap64 (c * N)).tmod D = r) (h1 : 0 < r) (h2 : D ≤ 2 * r) :
    Calls Tryz.prog 9 #[.int .i64 c, .agg #[.int .i64 N, .int .i64 D]] w fun e w' => e = .returned (.tuple #[.int .i64 (rsN (q + 1)), .int .i64 (rsE (q + 1))]) ∧ Below w.heap.size w w' := by
  have HA := Lib.hid hA; have HV := Lib.hid hv; have HI := Lib.hid hi; have HQ := Lib.hid hq; have HR := Lib.hid hr
  clear hA hv hi hq hr
  go_enter Tryz.func9, Tryz.ntmps9
  go_wp2_with fail
  refine (refam_b _ true HA.out _).mono ?_
  rintro e w' ⟨rfl, rfl⟩
  go_wp2_with fail
  refine (refvalid_b _ _ true HV.out _ HI.out.1 HI.out.2).mono ?_
  rintro e w1 ⟨rfl, hb⟩
  have p := Pr.new hb
  have b1 := on_new (Below.refl w.heap.size w) hb
  have ⟨p0, p1⟩ := p
  have pl := p.lt
  clear hb
  go_upto_region 8 with fail
  rw [HQ.out, HR.out]
  cases ha : am (q + 1) with
  | true =>
    have HY := Lib.hid ha
    clear ha
    go_wp2_with (go_at_call 21; refine (refam_b _ true HY.out _).mono ?_; rintro e w' ⟨rfl, rfl⟩)
    go_ret2
    exact ⟨ret_two (by rw [rsN, if_pos HY.out]) (by rw [rsE, if_pos HY.out]), b1.1⟩
  | false =>
    have HY := Lib.hid ha
    clear ha
    go_wp2_with (go_at_call 21; refine (refam_b _ false HY.out _).mono ?_; rintro e w' ⟨rfl, rfl⟩)
    go_ret2
    exact ⟨ret_two (by rw [rsN, if_neg (by simp [HY.out])]) (by rw [rsE, if_neg (by simp [HY.out])]), b1.1⟩

set_option maxRecDepth 100000 in
set_option maxHeartbeats 800000 in
theorem refscale_d (c N D : Int) (w : World) (hA : am c = true) (hv : vld N D = true) (hi : I64 N ∧ I64 D) (hD : 1 ≤ D) (hD2 : D ≤ 1000000000) (q : Int) (hq1 : -1000000000000000000 ≤ q) (hq2 : q ≤ 1000000000000000000) (hq : wrap64 ((wrap64 (c * N)).tdiv D) = q) (r : Int) (hr1 : -D < r) (hr2 : r < D) (hr : (wrap64 (c * N)).tmod D = r) (h1 : 0 < r) (h2 : ¬ D ≤ 2 * r) :
    Calls Tryz.prog 9 #[.int .i64 c, .agg #[.int .i64 N, .int .i64 D]] w fun e w' => e = .returned (.tuple #[.int .i64 (rsN (q)), .int .i64 (rsE (q))]) ∧ Below w.heap.size w w' := by
  have HA := Lib.hid hA; have HV := Lib.hid hv; have HI := Lib.hid hi; have HQ := Lib.hid hq; have HR := Lib.hid hr
  clear hA hv hi hq hr
  go_enter Tryz.func9, Tryz.ntmps9
  go_wp2_with fail
  refine (refam_b _ true HA.out _).mono ?_
  rintro e w' ⟨rfl, rfl⟩
  go_wp2_with fail
  refine (refvalid_b _ _ true HV.out _ HI.out.1 HI.out.2).mono ?_
  rintro e w1 ⟨rfl, hb⟩
  have p := Pr.new hb
  have b1 := on_new (Below.refl w.heap.size w) hb
  have ⟨p0, p1⟩ := p
  have pl := p.lt
  clear hb
  go_upto_region 8 with fail
  rw [HQ.out, HR.out]
  cases ha : am (q) with
  | true =>
    have HY := Lib.hid ha
    clear ha
    go_wp2_with (go_at_call 21; refine (refam_b _ true HY.out _).mono ?_; rintro e w' ⟨rfl, rfl⟩)
    go_ret2
    exact ⟨ret_two (by rw [rsN, if_pos HY.out]) (by rw [rsE, if_pos HY.out]), b1.1⟩
  | false =>
    have HY := Lib.hid ha
    clear ha
    go_wp2_with (go_at_call 21; refine (refam_b _ false HY.out _).mono ?_; rintro e w' ⟨rfl, rfl⟩)
    go_ret2
    exact ⟨ret_two (by rw [rsN, if_neg (by simp [HY.out])]) (by rw [rsE, if_neg (by simp [HY.out])]), b1.1⟩

set_option maxRecDepth 100000 in
set_option maxHeartbeats 800000 in
theorem refscale_e (c N D : Int) (w : World) (hA : am c = true) (hv : vld N D = true) (hi : I64 N ∧ I64 D) (hD : 1 ≤ D) (hD2 : D ≤ 1000000000) (q : Int) (hq1 : -1000000000000000000 ≤ q) (hq2 : q ≤ 1000000000000000000) (hq : wrap64 ((wrap64 (c * N)).tdiv D) = q) (r : Int) (hr1 : -D < r) (hr2 : r < D) (hr : (wrap64 (c * N)).tmod D = r) (h1 : r ≤ 0) (h2 : 0 ≤ r) :
    Calls Tryz.prog 9 #[.int .i64 c, .agg #[.int .i64 N, .int .i64 D]] w fun e w' => e = .returned (.tuple #[.int .i64 (rsN (q)), .int .i64 (rsE (q))]) ∧ Below w.heap.size w w' := by
  have HA := Lib.hid hA; have HV := Lib.hid hv; have HI := Lib.hid hi; have HQ := Lib.hid hq; have HR := Lib.hid hr
  clear hA hv hi hq hr
  go_enter Tryz.func9, Tryz.ntmps9
  go_wp2_with fail
  refine (refam_b _ true HA.out _).mono ?_
  rintro e w' ⟨rfl, rfl⟩
  go_wp2_with fail
  refine (refvalid_b _ _ true HV.out _ HI.out.1 HI.out.2).mono ?_
  rintro e w1 ⟨rfl, hb⟩
  have p := Pr.new hb
  have b1 := on_new (Below.refl w.heap.size w) hb
  have ⟨p0, p1⟩ := p
  have pl := p.lt
  clear hb
  go_upto_region 8 with fail
  rw [HQ.out, HR.out]
  cases ha : am (q) with
  | true =>
    have HY := Lib.hid ha
    clear ha
    go_wp2_with (go_at_call 21; refine (refam_b _ true HY.out _).mono ?_; rintro e w' ⟨rfl, rfl⟩)
    go_ret2
    exact ⟨ret_two (by rw [rsN, if_pos HY.out]) (by rw [rsE, if_pos HY.out]), b1.1⟩
  | false =>
    have HY := Lib.hid ha
    clear ha
    go_wp2_with (go_at_call 21; refine (refam_b _ false HY.out _).mono ?_; rintro e w' ⟨rfl, rfl⟩)
    go_ret2
    exact ⟨ret_two (by rw [rsN, if_neg (by simp [HY.out])]) (by rw [rsE, if_neg (by simp [HY.out])]), b1.1⟩

set_option maxHeartbeats 400000 in
theorem refscale_n1 (c N D : Int) (w : World) (ha : am c = false) (hi : I64 N ∧ I64 D) :
    Calls Tryz.prog 9 #[.int .i64 c, .agg #[.int .i64 N, .int .i64 D]] w fun e w' => e = .returned (.tuple #[.int .i64 0, .int .i64 1]) ∧ Below w.heap.size w w' := by
  have HA := Lib.hid ha; have HV := Lib.hid (rfl : vld N D = vld N D); have HI := Lib.hid hi
  clear ha hi
  generalize vld N D = bv at HV
  go_enter Tryz.func9, Tryz.ntmps9
  go_wp2_with fail
  refine (refam_b _ false HA.out _).mono ?_
  rintro e w' ⟨rfl, rfl⟩
  go_wp2_with fail
  refine (refvalid_any _ _ _ HI.out.1 HI.out.2).mono ?_
  rintro e w1 ⟨rfl, hb⟩
  have b1 := on_new (Below.refl w.heap.size w) hb
  clear hb

  go_wp2_with fail
  go_ret2
  exact ⟨rfl, b1.1⟩

set_option maxHeartbeats 400000 in
theorem refscale_n2 (c N D : Int) (w : World) (ha : am c = true) (hv : vld N D = false) (hi : I64 N ∧ I64 D) :
    Calls Tryz.prog 9 #[.int .i64 c, .agg #[.int .i64 N, .int .i64 D]] w fun e w' => e = .returned (.tuple #[.int .i64 0, .int .i64 1]) ∧ Below w.heap.size w w' := by
  have HA := Lib.hid ha; have HV := Lib.hid (hv : vld N D = false); have HI := Lib.hid hi
  clear ha hi hv

  go_enter Tryz.func9, Tryz.ntmps9
  go_wp2_with fail
  refine (refam_b _ true HA.out _).mono ?_
  rintro e w' ⟨rfl, rfl⟩
  go_wp2_with fail
  refine (refvalid_any _ _ _ HI.out.1 HI.out.2).mono ?_
  rintro e w1 ⟨rfl, hb⟩
  have b1 := on_new (Below.refl w.heap.size w) hb
  clear hb
  rw [HV.out]
  go_wp2_with fail
  go_ret2
  exact ⟨rfl, b1.1⟩

theorem refscale_any (c N D : Int) (w : World) (hN : I64 N) (hD : I64 D) :
    Calls Tryz.prog 9 #[.int .i64 c, .agg #[.int .i64 N, .int .i64 D]] w fun e w' => e = .returned (.tuple #[.int .i64 (sclN c N D), .int .i64 (sclE c N D)]) ∧ Below w.heap.size w w' := by
  cases ha : am c with
  | false => rw [show sclN c N D = 0 by simp [sclN, ha], show sclE c N D = 1 by simp [sclE, ha]]; exact refscale_n1 c N D w ha ⟨hN, hD⟩
  | true =>
    cases hv : vld N D with
    | false => rw [show sclN c N D = 0 by simp [sclN, hv], show sclE c N D = 1 by simp [sclE, hv]]; exact refscale_n2 c N D w ha hv ⟨hN, hD⟩
    | true =>
      rw [show sclN c N D = rsN (tms c N D) by simp [sclN, hv, ha], show sclE c N D = rsE (tms c N D) by simp [sclE, hv, ha], tms_rnd]
      obtain ⟨v1, v2, v3, v4, -⟩ := (vld_iff N D).1 hv
      have hm := mul_bd (am_bd.1 ha) (show Bd N from ⟨v3, v4⟩)
      have ew : wrap64 (c * N) = c * N := IntWalk.wrap64_in _ ⟨by omega, by omega⟩
      have tb := tm_bd (c * N) v1
      have qb := td_bd (c * N) (m := 1000000000000000000) v1 hm
      have eq1 : wrap64 ((wrap64 (c * N)).tdiv D) = (c * N).tdiv D := by rw [ew]; exact IntWalk.wrap64_in _ ⟨by omega, by omega⟩
      have er1 : (wrap64 (c * N)).tmod D = (c * N).tmod D := by rw [ew]
      obtain ⟨r1, r2, r3, r4, r5⟩ := rnd_ref (c * N) v1
      by_cases h1 : (c * N).tmod D < 0
      · by_cases h2 : D ≤ -2 * (c * N).tmod D
        · rw [r1 h1 h2]; exact refscale_a c N D w ha hv ⟨hN, hD⟩ v1 v2 _ qb.1 qb.2 eq1 _ tb.1 tb.2 er1 h1 h2
        · rw [r2 h1 h2]; exact refscale_b c N D w ha hv ⟨hN, hD⟩ v1 v2 _ qb.1 qb.2 eq1 _ tb.1 tb.2 er1 h1 h2
      · by_cases h3 : 0 < (c * N).tmod D
        · by_cases h2 : D ≤ 2 * (c * N).tmod D
          · rw [r3 h3 h2]; exact refscale_c c N D w ha hv ⟨hN, hD⟩ v1 v2 _ qb.1 qb.2 eq1 _ tb.1 tb.2 er1 h3 h2
          · rw [r4 h3 h2]; exact refscale_d c N D w ha hv ⟨hN, hD⟩ v1 v2 _ qb.1 qb.2 eq1 _ tb.1 tb.2 er1 h3 h2
        · rw [r5 (by omega)]; exact refscale_e c N D w ha hv ⟨hN, hD⟩ v1 v2 _ qb.1 qb.2 eq1 _ tb.1 tb.2 er1 (by omega) (by omega)

set_option maxRecDepth 100000 in
set_option maxHeartbeats 800000 in
theorem refexc_f1 (c : Int) (f t : Int) (N D : Int) (w : World) (bf bt bv : Bool) (ha : am c = false) (hf : cur f = bf) (ht : cur t = bt) (hv : vld N D = bv) (hi : I64 N ∧ I64 D)  :
    Calls Tryz.prog 16 #[.int .i64 c, .int .i64 f, .int .i64 t, .agg #[.int .i64 N, .int .i64 D]] w fun e w' => e = .returned (.tuple #[.int .i64 0, .int .i64 1]) ∧ Below w.heap.size w w' := by
  have HA := Lib.hid ha; have HF := Lib.hid hf; have HT := Lib.hid ht; have HV := Lib.hid hv; have HI := Lib.hid hi
  clear ha hf ht hv hi
  go_enter Tryz.func16, Tryz.ntmps16
  go_wp2_with fail
  refine (refam_b _ false HA.out _).mono ?_
  rintro e w' ⟨rfl, rfl⟩
  go_wp2_with fail
  refine (refcur_b _ bf HF.out _).mono ?_
  rintro e w' ⟨rfl, rfl⟩
  go_wp2_with fail
  refine (refcur_b _ bt HT.out _).mono ?_
  rintro e w' ⟨rfl, rfl⟩
  go_wp2_with fail
  refine (refvalid_b _ _ bv HV.out _ HI.out.1 HI.out.2).mono ?_
  rintro e w1 ⟨rfl, hb⟩
  have p := Lc.new hb
  have b1 := on_new (Below.refl w.heap.size w) hb
  have ⟨⟨p0, p1⟩, q0, q1⟩ := p
  have pl := p.lt
  clear hb
  go_wp2_with fail
  go_ret2
  exact ⟨rfl, b1.1⟩

set_option maxRecDepth 100000 in
set_option maxHeartbeats 800000 in
theorem refexc_f2 (c : Int) (f t : Int) (N D : Int) (w : World) (bt bv : Bool) (ha : am c = true) (hf : cur f = false) (ht : cur t = bt) (hv : vld N D = bv) (hi : I64 N ∧ I64 D)  :
    Calls Tryz.prog 16 #[.int .i64 c, .int .i64 f, .int .i64 t, .agg #[.int .i64 N, .int .i64 D]] w fun e w' => e = .returned (.tuple #[.int .i64 0, .int .i64 1]) ∧ Below w.heap.size w w' := by
  have HA := Lib.hid ha; have HF := Lib.hid hf; have HT := Lib.hid ht; have HV := Lib.hid hv; have HI := Lib.hid hi
  clear ha hf ht hv hi
  go_enter Tryz.func16, Tryz.ntmps16
  go_wp2_with fail
  refine (refam_b _ true HA.out _).mono ?_
  rintro e w' ⟨rfl, rfl⟩
  go_wp2_with fail
  refine (refcur_b _ false HF.out _).mono ?_
  rintro e w' ⟨rfl, rfl⟩
  go_wp2_with fail
  refine (refcur_b _ bt HT.out _).mono ?_
  rintro e w' ⟨rfl, rfl⟩
  go_wp2_with fail
  refine (refvalid_b _ _ bv HV.out _ HI.out.1 HI.out.2).mono ?_
  rintro e w1 ⟨rfl, hb⟩
  have p := Lc.new hb
  have b1 := on_new (Below.refl w.heap.size w) hb
  have ⟨⟨p0, p1⟩, q0, q1⟩ := p
  have pl := p.lt
  clear hb
  go_wp2_with fail
  go_ret2
  exact ⟨rfl, b1.1⟩

set_option maxRecDepth 100000 in
set_option maxHeartbeats 800000 in
theorem refexc_f3 (c : Int) (f t : Int) (N D : Int) (w : World) (bv : Bool) (ha : am c = true) (hf : cur f = true) (ht : cur t = false) (hv : vld N D = bv) (hi : I64 N ∧ I64 D)  :
    Calls Tryz.prog 16 #[.int .i64 c, .int .i64 f, .int .i64 t, .agg #[.int .i64 N, .int .i64 D]] w fun e w' => e = .returned (.tuple #[.int .i64 0, .int .i64 1]) ∧ Below w.heap.size w w' := by
  have HA := Lib.hid ha; have HF := Lib.hid hf; have HT := Lib.hid ht; have HV := Lib.hid hv; have HI := Lib.hid hi
  clear ha hf ht hv hi
  go_enter Tryz.func16, Tryz.ntmps16
  go_wp2_with fail
  refine (refam_b _ true HA.out _).mono ?_
  rintro e w' ⟨rfl, rfl⟩
  go_wp2_with fail
  refine (refcur_b _ true HF.out _).mono ?_
  rintro e w' ⟨rfl, rfl⟩
  go_wp2_with fail
  refine (refcur_b _ false HT.out _).mono ?_
  rintro e w' ⟨rfl, rfl⟩
  go_wp2_with fail
  refine (refvalid_b _ _ bv HV.out _ HI.out.1 HI.out.2).mono ?_
  rintro e w1 ⟨rfl, hb⟩
  have p := Lc.new hb
  have b1 := on_new (Below.refl w.heap.size w) hb
  have ⟨⟨p0, p1⟩, q0, q1⟩ := p
  have pl := p.lt
  clear hb
  go_wp2_with fail
  go_ret2
  exact ⟨rfl, b1.1⟩

set_option maxRecDepth 100000 in
set_option maxHeartbeats 800000 in
theorem refexc_f4 (c : Int) (f t : Int) (N D : Int) (w : World) (ha : am c = true) (hf : cur f = true) (ht : cur t = true) (hv : vld N D = false) (hi : I64 N ∧ I64 D)  :
    Calls Tryz.prog 16 #[.int .i64 c, .int .i64 f, .int .i64 t, .agg #[.int .i64 N, .int .i64 D]] w fun e w' => e = .returned (.tuple #[.int .i64 0, .int .i64 1]) ∧ Below w.heap.size w w' := by
  have HA := Lib.hid ha; have HF := Lib.hid hf; have HT := Lib.hid ht; have HV := Lib.hid hv; have HI := Lib.hid hi
  clear ha hf ht hv hi
  go_enter Tryz.func16, Tryz.ntmps16
  go_wp2_with fail
  refine (refam_b _ true HA.out _).mono ?_
  rintro e w' ⟨rfl, rfl⟩
  go_wp2_with fail
  refine (refcur_b _ true HF.out _).mono ?_
  rintro e w' ⟨rfl, rfl⟩
  go_wp2_with fail
  refine (refcur_b _ true HT.out _).mono ?_
  rintro e w' ⟨rfl, rfl⟩
  go_wp2_with fail
  refine (refvalid_b _ _ false HV.out _ HI.out.1 HI.out.2).mono ?_
  rintro e w1 ⟨rfl, hb⟩
  have p := Lc.new hb
  have b1 := on_new (Below.refl w.heap.size w) hb
  have ⟨⟨p0, p1⟩, q0, q1⟩ := p
  have pl := p.lt
  clear hb
  go_wp2_with fail
  go_ret2
  exact ⟨rfl, b1.1⟩

set_option maxRecDepth 100000 in
set_option maxHeartbeats 800000 in
theorem refexc_f5 (c : Int) (f t : Int) (N D : Int) (w : World) (ha : am c = true) (hf : cur f = true) (ht : cur t = true) (hv : vld N D = true) (hi : I64 N ∧ I64 D) (hn : N ≤ 0) :
    Calls Tryz.prog 16 #[.int .i64 c, .int .i64 f, .int .i64 t, .agg #[.int .i64 N, .int .i64 D]] w fun e w' => e = .returned (.tuple #[.int .i64 0, .int .i64 1]) ∧ Below w.heap.size w w' := by
  have HA := Lib.hid ha; have HF := Lib.hid hf; have HT := Lib.hid ht; have HV := Lib.hid hv; have HI := Lib.hid hi
  clear ha hf ht hv hi
  go_enter Tryz.func16, Tryz.ntmps16
  go_wp2_with fail
  refine (refam_b _ true HA.out _).mono ?_
  rintro e w' ⟨rfl, rfl⟩
  go_wp2_with fail
  refine (refcur_b _ true HF.out _).mono ?_
  rintro e w' ⟨rfl, rfl⟩
  go_wp2_with fail
  refine (refcur_b _ true HT.out _).mono ?_
  rintro e w' ⟨rfl, rfl⟩
  go_wp2_with fail
  refine (refvalid_b _ _ true HV.out _ HI.out.1 HI.out.2).mono ?_
  rintro e w1 ⟨rfl, hb⟩
  have p := Lc.new hb
  have b1 := on_new (Below.refl w.heap.size w) hb
  have ⟨⟨p0, p1⟩, q0, q1⟩ := p
  have pl := p.lt
  clear hb
  go_wp2_with fail
  go_ret2
  exact ⟨rfl, b1.1⟩

set_option maxRecDepth 100000 in
set_option maxHeartbeats 800000 in
theorem refexc_same (c : Int) (f : Int) (N D : Int) (w : World) (ha : am c = true) (hf : cur f = true) (ht : cur f = true) (hv : vld N D = true) (hi : I64 N ∧ I64 D) (hn : 0 < N) :
    Calls Tryz.prog 16 #[.int .i64 c, .int .i64 f, .int .i64 f, .agg #[.int .i64 N, .int .i64 D]] w fun e w' => e = .returned (.tuple #[.int .i64 c, .int .i64 0]) ∧ Below w.heap.size w w' := by
  have HA := Lib.hid ha; have HF := Lib.hid hf; have HT := Lib.hid ht; have HV := Lib.hid hv; have HI := Lib.hid hi
  clear ha hf ht hv hi
  go_enter Tryz.func16, Tryz.ntmps16
  go_wp2_with fail
  refine (refam_b _ true HA.out _).mono ?_
  rintro e w' ⟨rfl, rfl⟩
  go_wp2_with fail
  refine (refcur_b _ true HF.out _).mono ?_
  rintro e w' ⟨rfl, rfl⟩
  go_wp2_with fail
  refine (refcur_b _ true HT.out _).mono ?_
  rintro e w' ⟨rfl, rfl⟩
  go_wp2_with fail
  refine (refvalid_b _ _ true HV.out _ HI.out.1 HI.out.2).mono ?_
  rintro e w1 ⟨rfl, hb⟩
  have p := Lc.new hb
  have b1 := on_new (Below.refl w.heap.size w) hb
  have ⟨⟨p0, p1⟩, q0, q1⟩ := p
  have pl := p.lt
  clear hb
  go_wp2_with fail
  go_ret2
  exact ⟨rfl, b1.1⟩

set_option maxRecDepth 100000 in
set_option maxHeartbeats 800000 in
theorem refexc_fe (c : Int)  (N D : Int) (w : World) (ha : am c = true) (hf : cur 0 = true) (ht : cur 1 = true) (hv : vld N D = true) (hi : I64 N ∧ I64 D) (hn : 0 < N) (x y : Int) (hsc : ∀ W : World, Calls Tryz.prog 9 #[.int .i64 c, .agg #[.int .i64 N, .int .i64 D]] W fun e w' => e = .returned (.tuple #[.int .i64 x, .int .i64 y]) ∧ Below W.heap.size W w') :
    Calls Tryz.prog 16 #[.int .i64 c, .int .i64 0, .int .i64 1, .agg #[.int .i64 N, .int .i64 D]] w fun e w' => e = .returned (.tuple #[.int .i64 x, .int .i64 y]) ∧ Below w.heap.size w w' := by
  have HA := Lib.hid ha; have HF := Lib.hid hf; have HT := Lib.hid ht; have HV := Lib.hid hv; have HI := Lib.hid hi
  clear ha hf ht hv hi
  have HSC := Lib.hid hsc; clear hsc
  go_enter Tryz.func16, Tryz.ntmps16
  go_wp2_with fail
  refine (refam_b _ true HA.out _).mono ?_
  rintro e w' ⟨rfl, rfl⟩
  go_wp2_with fail
  refine (refcur_b _ true HF.out _).mono ?_
  rintro e w' ⟨rfl, rfl⟩
  go_wp2_with fail
  refine (refcur_b _ true HT.out _).mono ?_
  rintro e w' ⟨rfl, rfl⟩
  go_wp2_with fail
  refine (refvalid_b _ _ true HV.out _ HI.out.1 HI.out.2).mono ?_
  rintro e w1 ⟨rfl, hb⟩
  have p := Lc.new hb
  have b1 := on_new (Below.refl w.heap.size w) hb
  have ⟨⟨p0, p1⟩, q0, q1⟩ := p
  have pl := p.lt
  clear hb
  go_wp2_with fail
  clear p0 p1 q0 q1 pl
  refine (HSC.out _).mono ?_
  rintro e w2 ⟨rfl, hb2⟩
  have b2 := on_same b1.1 hb2
  go_wp2_with fail
  go_ret2
  exact ⟨rfl, b2.1⟩

set_option maxRecDepth 100000 in
set_option maxHeartbeats 800000 in
theorem refexc_ef (c : Int)  (N D : Int) (w : World) (ha : am c = true) (hf : cur 1 = true) (ht : cur 0 = true) (hv : vld N D = true) (hi : I64 N ∧ I64 D) (hn : 0 < N) (x y : Int) (hsc : ∀ W : World, Calls Tryz.prog 9 #[.int .i64 c, .agg #[.int .i64 D, .int .i64 N]] W fun e w' => e = .returned (.tuple #[.int .i64 x, .int .i64 y]) ∧ Below W.heap.size W w') :
    Calls Tryz.prog 16 #[.int .i64 c, .int .i64 1, .int .i64 0, .agg #[.int .i64 N, .int .i64 D]] w fun e w' => e = .returned (.tuple #[.int .i64 x, .int .i64 y]) ∧ Below w.heap.size w w' := by
  have HA := Lib.hid ha; have HF := Lib.hid hf; have HT := Lib.hid ht; have HV := Lib.hid hv; have HI := Lib.hid hi
  clear ha hf ht hv hi
  have HSC := Lib.hid hsc; clear hsc
  go_enter Tryz.func16, Tryz.ntmps16
  go_wp2_with fail
  refine (refam_b _ true HA.out _).mono ?_
  rintro e w' ⟨rfl, rfl⟩
  go_wp2_with fail
  refine (refcur_b _ true HF.out _).mono ?_
  rintro e w' ⟨rfl, rfl⟩
  go_wp2_with fail
  refine (refcur_b _ true HT.out _).mono ?_
  rintro e w' ⟨rfl, rfl⟩
  go_wp2_with fail
  refine (refvalid_b _ _ true HV.out _ HI.out.1 HI.out.2).mono ?_
  rintro e w1 ⟨rfl, hb⟩
  have p := Lc.new hb
  have b1 := on_new (Below.refl w.heap.size w) hb
  have ⟨⟨p0, p1⟩, q0, q1⟩ := p
  have pl := p.lt
  clear hb
  go_wp2_with fail
  clear p0 p1 q0 q1 pl
  refine (HSC.out _).mono ?_
  rintro e w2 ⟨rfl, hb2⟩
  have b2 := on_set (h := w.heap.size) b1.1 (Nat.le_refl _) hb2
  go_wp2_with fail
  go_ret2
  exact ⟨rfl, b2.1⟩

theorem vld_swap {N D : Int} (h : vld N D = true) (hn : 0 < N) : vld D N = true := by
  obtain ⟨v1, v2, v3, v4, v5⟩ := (vld_iff N D).1 h
  exact (vld_iff D N).2 ⟨by omega, v4, by omega, v2, by rw [Nat.gcd_comm]; exact v5⟩
theorem refexchange_any (c f t N D : Int) (w : World) (hN : I64 N) (hD : I64 D) :
    Calls Tryz.prog 16 #[.int .i64 c, .int .i64 f, .int .i64 t, .agg #[.int .i64 N, .int .i64 D]] w fun e w' => e = .returned (.tuple #[.int .i64 (excN c f t N D), .int .i64 (excE c f t N D)]) ∧ Below w.heap.size w w' := by
  cases ha : am c with
  | false => rw [(exc_no (by simp [exok, ha])).1, (exc_no (by simp [exok, ha])).2]; exact refexc_f1 c f t N D w _ _ _ ha rfl rfl rfl ⟨hN, hD⟩
  | true =>
    cases hf : cur f with
    | false => rw [(exc_no (by simp [exok, hf])).1, (exc_no (by simp [exok, hf])).2]; exact refexc_f2 c f t N D w _ _ ha hf rfl rfl ⟨hN, hD⟩
    | true =>
      cases ht : cur t with
      | false => rw [(exc_no (by simp [exok, ht])).1, (exc_no (by simp [exok, ht])).2]; exact refexc_f3 c f t N D w _ ha hf ht rfl ⟨hN, hD⟩
      | true =>
        cases hv : vld N D with
        | false => rw [(exc_no (by simp [exok, hv])).1, (exc_no (by simp [exok, hv])).2]; exact refexc_f4 c f t N D w ha hf ht hv ⟨hN, hD⟩
        | true =>
          by_cases hn : 0 < N
          · have hk : exok c f t N D = true := exok_iff.2 ⟨ha, hf, ht, hv, hn⟩
            have hv' := vld_swap hv hn
            have k1 : ∀ W : World, _ := fun W => refscale_any c N D W hN hD
            have k2 : ∀ W : World, _ := fun W => refscale_any c D N W hD hN
            rw [show sclN c N D = rsN (tms c N D) by simp [sclN, hv, ha], show sclE c N D = rsE (tms c N D) by simp [sclE, hv, ha]] at k1
            rw [show sclN c D N = rsN (tms c D N) by simp [sclN, hv', ha], show sclE c D N = rsE (tms c D N) by simp [sclE, hv', ha]] at k2
            rw [excN, excE, if_pos hk, if_pos hk]
            by_cases e : f = t
            · rw [if_pos e, if_pos e]; subst e; exact refexc_same c f N D w ha hf ht hv ⟨hN, hD⟩ hn
            · rw [if_neg e, if_neg e]
              rcases cur_iff.1 hf with rfl | rfl
              · rcases cur_iff.1 ht with rfl | rfl
                · exact absurd rfl e
                · rw [if_neg (by omega), if_neg (by omega)]; exact refexc_fe c N D w ha hf ht hv ⟨hN, hD⟩ hn _ _ k1
              · rcases cur_iff.1 ht with rfl | rfl
                · rw [if_pos rfl, if_pos rfl]; exact refexc_ef c N D w ha hf ht hv ⟨hN, hD⟩ hn _ _ k2
                · exact absurd rfl e
          · rw [(exc_no (by simp [exok, hn])).1, (exc_no (by simp [exok, hn])).2]; exact refexc_f5 c f t N D w ha hf ht hv ⟨hN, hD⟩ (by omega)
end Go.Proofs.YtanncjkkaeeiaaaGreatDoor
