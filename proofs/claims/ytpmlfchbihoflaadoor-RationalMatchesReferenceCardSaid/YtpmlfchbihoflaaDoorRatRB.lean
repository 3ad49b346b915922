/-
  The reference of package rational: Make, Valid and Both answer as those of package rational do, for every int.
-/
import Derived.Test.YtpmlfchbihoflaaDoorRatRA
namespace Go.Proofs.YtpmlfchbihoflaaDoor
open Go.RowKit Go.Sort
open Go.RowKit (Below)

set_option maxHeartbeats 400000 in
theorem refvalid_any (n d : Int) (w : World) (hn : I64 n) (hd : I64 d) :
    Calls Tryd.prog 7 #[.agg #[.int .i64 n, .int .i64 d]] w fun e w' => e = .returned (.bool (vld n d)) ∧ Below w.heap.size w w' := by
  obtain ⟨hn1, hn2⟩ := hn
  obtain ⟨hd1, hd2⟩ := hd
  by_cases h1 : d < 1
  · go_enter Tryd.func7, Tryd.ntmps7
    go_wp2
    go_ret
    exact ⟨ret_bool (by unfold vld; simp; omega), (Below.refl _ _).alloc (Nat.le_refl _) _⟩
  · by_cases h2 : 1000000000 < d
    · go_enter Tryd.func7, Tryd.ntmps7
      go_wp2
      go_ret
      exact ⟨ret_bool (by unfold vld; simp; omega), (Below.refl _ _).alloc (Nat.le_refl _) _⟩
    · by_cases h3 : n < -1000000000
      · go_enter Tryd.func7, Tryd.ntmps7
        go_wp2
        go_ret
        exact ⟨ret_bool (by unfold vld; simp; omega), (Below.refl _ _).alloc (Nat.le_refl _) _⟩
      · by_cases h4 : 1000000000 < n
        · go_enter Tryd.func7, Tryd.ntmps7
          go_wp2
          go_ret
          exact ⟨ret_bool (by unfold vld; simp; omega), (Below.refl _ _).alloc (Nat.le_refl _) _⟩
        · go_enter Tryd.func7, Tryd.ntmps7
          go_wp2_with (first | (go_at_call 29; refine (size_any _ _ (by omega) (by omega)).mono ?_; rintro e w' ⟨rfl, rfl⟩) | (go_at_call 28; refine (common_any _ _ _ (by omega) (by omega)).mono ?_; rintro e w' ⟨rfl, rfl⟩))
          go_quiet ((first | (go_at_call 29; exact quiet_left (size_any _ _ (by omega) (by omega))) | (go_at_call 28; exact quiet_left (common_any _ _ _ (by omega) (by omega)))))
          go_wp2
          go_ret
          exact ⟨ret_bool (vld_last h1 h2 (by omega)), below_drewN' ((Below.refl _ _).alloc (Nat.le_refl _) _) _⟩

set_option maxHeartbeats 400000 in
theorem refboth_any (a b c d : Int) (w : World) (ha : I64 a) (hb : I64 b) (hc : I64 c) (hd : I64 d) :
    Calls Tryd.prog 35 #[.agg #[.int .i64 a, .int .i64 b], .agg #[.int .i64 c, .int .i64 d]] w fun e w' => e = .returned (.bool (vld a b && vld c d)) ∧ Below w.heap.size w w' := by
  have H1 := Lib.hid (fun w => refvalid_any a b w ha hb)
  have H2 := Lib.hid (fun w => refvalid_any c d w hc hd)
  cases hv : vld a b with
  | false =>
    rw [hv] at H1
    go_enter Tryd.func35, Tryd.ntmps35
    go_wp2_with fail
    refine (H1.out _).mono ?_
    rintro e w1 ⟨rfl, hb1⟩
    go_wp2
    go_ret
    exact ⟨rfl, (((Below.refl _ _).alloc (Nat.le_refl _) _).alloc (by simp) _).trans (hb1.mono (by simp; omega))⟩
  | true =>
    rw [hv] at H1
    go_enter Tryd.func35, Tryd.ntmps35
    go_wp2_with fail
    refine (H1.out _).mono ?_
    rintro e w1 ⟨rfl, hb1⟩
    obtain ⟨h1, h2⟩ := bcell hb1
    have k0 : w1.cell? ⟨w.heap.size + 1, 0, none⟩ = some (.int .i64 c) := by rw [h1 _ _ (by simp)]; simp [go_sem]
    have k1 : w1.cell? ⟨w.heap.size + 1, 1, none⟩ = some (.int .i64 d) := by rw [h1 _ _ (by simp)]; simp [go_sem]
    clear h1 h2
    have b1 : Below w.heap.size w w1 := (((Below.refl _ _).alloc (Nat.le_refl _) _).alloc (by simp) _).trans (hb1.mono (by simp; omega))
    go_wp2_with fail
    refine (H2.out _).mono ?_
    rintro e w2 ⟨rfl, hb2⟩
    go_wp2
    go_ret
    exact ⟨by simp, b1.trans (hb2.mono b1.size)⟩

set_option maxHeartbeats 400000 in
theorem refmake_zero (n : Int) (w : World) :
    Calls Tryd.prog 9 #[.int .i64 n, .int .i64 0] w fun e w' => e = .returned (.tuple #[.agg #[.int .i64 0, .int .i64 0], .int .i64 7]) ∧ Below w.heap.size w w' := by
  go_enter Tryd.func9, Tryd.ntmps9
  go_wp2
  refine bodyPost_ret (v := .tuple #[.agg #[.int .i64 0, .int .i64 0], .int .i64 7]) (by simp [results, Tryd.results9, go_sem]) rfl ⟨rfl, ?_⟩
  exact (Below.refl _ _).alloc (Nat.le_refl _) _

set_option maxHeartbeats 800000 in
theorem refmake_r1 (n d : Int) (p q : Nat) (w : World) (hn1 : -9223372036854775808 ≤ n) (hn2 : n ≤ 9223372036854775807) (hd1 : -9223372036854775808 ≤ d) (hd2 : d ≤ 9223372036854775807)
    (hd : (d == 0) = false) (hg : 1 ≤ ((n.natAbs.gcd d.natAbs : Nat) : Int)) (ep : IntKind.u64.wrap ((n.natAbs : Int) / ((n.natAbs.gcd d.natAbs : Nat) : Int)) = (p : Int)) (eq : IntKind.u64.wrap ((d.natAbs : Int) / ((n.natAbs.gcd d.natAbs : Nat) : Int)) = (q : Int)) (hr : (1000000000 : Int) < p) :
    Calls Tryd.prog 9 #[.int .i64 n, .int .i64 d] w fun e w' => e = .returned (.tuple #[.agg #[.int .i64 0, .int .i64 0], .int .i64 3]) ∧ Below w.heap.size w w' := by
  go_enter Tryd.func9, Tryd.ntmps9
  go_wp2_with (first | (go_at_call 29; refine (size_any _ _ (by omega) (by omega)).mono ?_; rintro e w' ⟨rfl, rfl⟩) | (go_at_call 28; refine (common_any _ _ _ (by omega) (by omega)).mono ?_; rintro e w' ⟨rfl, rfl⟩))
  refine bodyPost_ret (v := .tuple #[.agg #[.int .i64 0, .int .i64 0], .int .i64 3]) (by simp [results, Tryd.results9, go_sem]) rfl ⟨rfl, ?_⟩
  exact (Below.refl _ _).alloc (Nat.le_refl _) _

set_option maxHeartbeats 800000 in
theorem refmake_r2 (n d : Int) (p q : Nat) (w : World) (hn1 : -9223372036854775808 ≤ n) (hn2 : n ≤ 9223372036854775807) (hd1 : -9223372036854775808 ≤ d) (hd2 : d ≤ 9223372036854775807)
    (hd : (d == 0) = false) (hg : 1 ≤ ((n.natAbs.gcd d.natAbs : Nat) : Int)) (ep : IntKind.u64.wrap ((n.natAbs : Int) / ((n.natAbs.gcd d.natAbs : Nat) : Int)) = (p : Int)) (eq : IntKind.u64.wrap ((d.natAbs : Int) / ((n.natAbs.gcd d.natAbs : Nat) : Int)) = (q : Int)) (hr : (p : Int) ≤ 1000000000) (hr2 : (1000000000 : Int) < q) :
    Calls Tryd.prog 9 #[.int .i64 n, .int .i64 d] w fun e w' => e = .returned (.tuple #[.agg #[.int .i64 0, .int .i64 0], .int .i64 3]) ∧ Below w.heap.size w w' := by
  go_enter Tryd.func9, Tryd.ntmps9
  go_wp2_with (first | (go_at_call 29; refine (size_any _ _ (by omega) (by omega)).mono ?_; rintro e w' ⟨rfl, rfl⟩) | (go_at_call 28; refine (common_any _ _ _ (by omega) (by omega)).mono ?_; rintro e w' ⟨rfl, rfl⟩))
  refine bodyPost_ret (v := .tuple #[.agg #[.int .i64 0, .int .i64 0], .int .i64 3]) (by simp [results, Tryd.results9, go_sem]) rfl ⟨rfl, ?_⟩
  exact (Below.refl _ _).alloc (Nat.le_refl _) _

set_option maxHeartbeats 800000 in
theorem refmake_nn (n d : Int) (p q : Nat) (w : World) (hn1 : -9223372036854775808 ≤ n) (hn2 : n ≤ 9223372036854775807) (hd1 : -9223372036854775808 ≤ d) (hd2 : d ≤ 9223372036854775807)
    (hd : (d == 0) = false) (hg : 1 ≤ ((n.natAbs.gcd d.natAbs : Nat) : Int)) (ep : IntKind.u64.wrap ((n.natAbs : Int) / ((n.natAbs.gcd d.natAbs : Nat) : Int)) = (p : Int)) (eq : IntKind.u64.wrap ((d.natAbs : Int) / ((n.natAbs.gcd d.natAbs : Nat) : Int)) = (q : Int)) (hp : (p : Int) ≤ 1000000000) (hq : (q : Int) ≤ 1000000000) (hn0 : decide (n < 0) = true) (hd0 : decide (d < 0) = true) :
    Calls Tryd.prog 9 #[.int .i64 n, .int .i64 d] w fun e w' => e = .returned (.tuple #[.agg #[.int .i64 (p), .int .i64 q], .int .i64 0]) ∧ Below w.heap.size w w' := by
  go_enter Tryd.func9, Tryd.ntmps9
  go_wp2_with (first | (go_at_call 29; refine (size_any _ _ (by omega) (by omega)).mono ?_; rintro e w' ⟨rfl, rfl⟩) | (go_at_call 28; refine (common_any _ _ _ (by omega) (by omega)).mono ?_; rintro e w' ⟨rfl, rfl⟩))
  refine bodyPost_ret (v := .tuple #[.agg #[.int .i64 (p), .int .i64 q], .int .i64 0]) (by simp [results, Tryd.results9, go_sem]) rfl ⟨rfl, ?_⟩
  exact ((Below.refl _ _).alloc (Nat.le_refl _) _).alloc (by simp) _

set_option maxHeartbeats 800000 in
theorem refmake_pp (n d : Int) (p q : Nat) (w : World) (hn1 : -9223372036854775808 ≤ n) (hn2 : n ≤ 9223372036854775807) (hd1 : -9223372036854775808 ≤ d) (hd2 : d ≤ 9223372036854775807)
    (hd : (d == 0) = false) (hg : 1 ≤ ((n.natAbs.gcd d.natAbs : Nat) : Int)) (ep : IntKind.u64.wrap ((n.natAbs : Int) / ((n.natAbs.gcd d.natAbs : Nat) : Int)) = (p : Int)) (eq : IntKind.u64.wrap ((d.natAbs : Int) / ((n.natAbs.gcd d.natAbs : Nat) : Int)) = (q : Int)) (hp : (p : Int) ≤ 1000000000) (hq : (q : Int) ≤ 1000000000) (hn0 : decide (n < 0) = false) (hd0 : decide (d < 0) = false) :
    Calls Tryd.prog 9 #[.int .i64 n, .int .i64 d] w fun e w' => e = .returned (.tuple #[.agg #[.int .i64 (p), .int .i64 q], .int .i64 0]) ∧ Below w.heap.size w w' := by
  go_enter Tryd.func9, Tryd.ntmps9
  go_wp2_with (first | (go_at_call 29; refine (size_any _ _ (by omega) (by omega)).mono ?_; rintro e w' ⟨rfl, rfl⟩) | (go_at_call 28; refine (common_any _ _ _ (by omega) (by omega)).mono ?_; rintro e w' ⟨rfl, rfl⟩))
  refine bodyPost_ret (v := .tuple #[.agg #[.int .i64 (p), .int .i64 q], .int .i64 0]) (by simp [results, Tryd.results9, go_sem]) rfl ⟨rfl, ?_⟩
  exact ((Below.refl _ _).alloc (Nat.le_refl _) _).alloc (by simp) _

set_option maxHeartbeats 800000 in
theorem refmake_np (n d : Int) (p q : Nat) (w : World) (hn1 : -9223372036854775808 ≤ n) (hn2 : n ≤ 9223372036854775807) (hd1 : -9223372036854775808 ≤ d) (hd2 : d ≤ 9223372036854775807)
    (hd : (d == 0) = false) (hg : 1 ≤ ((n.natAbs.gcd d.natAbs : Nat) : Int)) (ep : IntKind.u64.wrap ((n.natAbs : Int) / ((n.natAbs.gcd d.natAbs : Nat) : Int)) = (p : Int)) (eq : IntKind.u64.wrap ((d.natAbs : Int) / ((n.natAbs.gcd d.natAbs : Nat) : Int)) = (q : Int)) (hp : (p : Int) ≤ 1000000000) (hq : (q : Int) ≤ 1000000000) (hn0 : decide (n < 0) = true) (hd0 : decide (d < 0) = false) :
    Calls Tryd.prog 9 #[.int .i64 n, .int .i64 d] w fun e w' => e = .returned (.tuple #[.agg #[.int .i64 (-p), .int .i64 q], .int .i64 0]) ∧ Below w.heap.size w w' := by
  go_enter Tryd.func9, Tryd.ntmps9
  go_wp2_with (first | (go_at_call 29; refine (size_any _ _ (by omega) (by omega)).mono ?_; rintro e w' ⟨rfl, rfl⟩) | (go_at_call 28; refine (common_any _ _ _ (by omega) (by omega)).mono ?_; rintro e w' ⟨rfl, rfl⟩))
  refine bodyPost_ret (v := .tuple #[.agg #[.int .i64 (-p), .int .i64 q], .int .i64 0]) (by simp [results, Tryd.results9, go_sem]) rfl ⟨rfl, ?_⟩
  exact ((Below.refl _ _).alloc (Nat.le_refl _) _).alloc (by simp) _

set_option maxHeartbeats 800000 in
theorem refmake_pn (n d : Int) (p q : Nat) (w : World) (hn1 : -9223372036854775808 ≤ n) (hn2 : n ≤ 9223372036854775807) (hd1 : -9223372036854775808 ≤ d) (hd2 : d ≤ 9223372036854775807)
    (hd : (d == 0) = false) (hg : 1 ≤ ((n.natAbs.gcd d.natAbs : Nat) : Int)) (ep : IntKind.u64.wrap ((n.natAbs : Int) / ((n.natAbs.gcd d.natAbs : Nat) : Int)) = (p : Int)) (eq : IntKind.u64.wrap ((d.natAbs : Int) / ((n.natAbs.gcd d.natAbs : Nat) : Int)) = (q : Int)) (hp : (p : Int) ≤ 1000000000) (hq : (q : Int) ≤ 1000000000) (hn0 : decide (n < 0) = false) (hd0 : decide (d < 0) = true) :
    Calls Tryd.prog 9 #[.int .i64 n, .int .i64 d] w fun e w' => e = .returned (.tuple #[.agg #[.int .i64 (-p), .int .i64 q], .int .i64 0]) ∧ Below w.heap.size w w' := by
  go_enter Tryd.func9, Tryd.ntmps9
  go_wp2_with (first | (go_at_call 29; refine (size_any _ _ (by omega) (by omega)).mono ?_; rintro e w' ⟨rfl, rfl⟩) | (go_at_call 28; refine (common_any _ _ _ (by omega) (by omega)).mono ?_; rintro e w' ⟨rfl, rfl⟩))
  refine bodyPost_ret (v := .tuple #[.agg #[.int .i64 (-p), .int .i64 q], .int .i64 0]) (by simp [results, Tryd.results9, go_sem]) rfl ⟨rfl, ?_⟩
  exact ((Below.refl _ _).alloc (Nat.le_refl _) _).alloc (by simp) _

set_option maxRecDepth 100000 in
/-- The reference's Make returns the reduced quotient of any two ints, or ErrZero, or ErrRange. -/
theorem refmake_any (n d : Int) (w : World) (hn : I64 n) (hd : I64 d) :
    Calls Tryd.prog 9 #[.int .i64 n, .int .i64 d] w fun e w' => e = .returned (.tuple #[.agg #[.int .i64 (mkN n d), .int .i64 (mkD n d)], .int .i64 (mkE n d)]) ∧ Below w.heap.size w w' := by
  obtain ⟨hn1, hn2⟩ := hn
  obtain ⟨hd1, hd2⟩ := hd
  by_cases h0 : d = 0
  · subst h0
    exact refmake_zero n w
  have hg := cd_pos (n := n) h0
  have hb : (d == 0) = false := by simpa using h0
  have hgi : 1 ≤ ((n.natAbs.gcd d.natAbs : Nat) : Int) := by unfold cd at hg; omega
  have l1 : n.natAbs / cd n d ≤ n.natAbs := Nat.div_le_self _ _
  have l2 : d.natAbs / cd n d ≤ d.natAbs := Nat.div_le_self _ _
  have ep : IntKind.u64.wrap ((n.natAbs : Int) / ((n.natAbs.gcd d.natAbs : Nat) : Int)) = ((n.natAbs / cd n d : Nat) : Int) := wrap_div _ (cd n d) (by omega)
  have eq : IntKind.u64.wrap ((d.natAbs : Int) / ((n.natAbs.gcd d.natAbs : Nat) : Int)) = ((d.natAbs / cd n d : Nat) : Int) := wrap_div _ (cd n d) (by omega)
  by_cases hr : 1000000000 < n.natAbs / cd n d ∨ 1000000000 < d.natAbs / cd n d
  · have he : mkE n d = 3 := by simp only [mkE, if_neg h0, if_pos hr]
    rw [show mkN n d = 0 by simp [mkN, he], show mkD n d = 0 by simp [mkD, he], he]
    by_cases hr1 : 1000000000 < n.natAbs / cd n d
    · exact refmake_r1 n d _ _ w hn1 hn2 hd1 hd2 hb hgi ep eq (by omega)
    · exact refmake_r2 n d _ _ w hn1 hn2 hd1 hd2 hb hgi ep eq (by omega) (by omega)
  · have he : mkE n d = 0 := by simp only [mkE, if_neg h0, if_neg hr]
    rw [show mkN n d = rn n d by simp [mkN, he], show mkD n d = rd n d by simp [mkD, he], he]
    have hp : ((n.natAbs / cd n d : Nat) : Int) ≤ 1000000000 := by omega
    have hq : ((d.natAbs / cd n d : Nat) : Int) ≤ 1000000000 := by omega
    unfold rn rd
    by_cases h1 : n < 0 <;> by_cases h2 : d < 0
    · rw [if_pos (by simp [h1, h2])]
      exact refmake_nn n d _ _ w hn1 hn2 hd1 hd2 hb hgi ep eq hp hq (by simp [h1]) (by simp [h2])
    · rw [if_neg (by simp [h1, h2])]
      exact refmake_np n d _ _ w hn1 hn2 hd1 hd2 hb hgi ep eq hp hq (by simp [h1]) (by simp [h2])
    · rw [if_neg (by simp [h1, h2])]
      exact refmake_pn n d _ _ w hn1 hn2 hd1 hd2 hb hgi ep eq hp hq (by simp [h1]) (by simp [h2])
    · rw [if_pos (by simp [h1, h2])]
      exact refmake_pp n d _ _ w hn1 hn2 hd1 hd2 hb hgi ep eq hp hq (by simp [h1]) (by simp [h2])
end Go.Proofs.YtpmlfchbihoflaaDoor
