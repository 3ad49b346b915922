/-
  Out of the texts of layer 1: package rational's Add, the reference's Valid and Make. Rows of targets and bodies as lists of cells: for the laws' own appends.
-/
import Derived.Test.YtjjimbaogpmbmaaSgtZD
import Derived.Test.YtjjimbaogpmbmaaShpQO
import Derived.Test.YtjjimbaogpmbmaaGenE
namespace Go.Proofs.Ytjjimbaogpmbmaa
open Go.RowKit Go.Sort
open Go.RowKit (Below)
set_option linter.unusedVariables false
set_option linter.unusedSimpArgs false

theorem add_wrap {x y z u : Int} (hx : Bd x) (hy : Bd y) (hz : Bd z) (hu : Bd u) : wrap64 (wrap64 (x * y) + wrap64 (z * u)) = x * y + z * u := by
  rw [mul_wrap hx hy, mul_wrap hz hu]
  have h := mul_bd hx hy
  have h' := mul_bd hz hu
  exact IntWalk.wrap64_in _ ⟨by omega, by omega⟩
theorem ret2_int {k l : IntKind} {a b c d : Int} (h : a = b) (h' : c = d) : Ending.returned (.tuple #[.int k a, .int l c]) = .returned (.tuple #[.int k b, .int l d]) := by rw [h, h']
def opE (v : Bool) (p q : Int) : Int := if v = true then mkE p q else 1
def opN (v : Bool) (p q : Int) : Int := if v = true then mkN p q else 0
def opD (v : Bool) (p q : Int) : Int := if v = true then mkD p q else 0
theorem Bd.i64 {x : Int} (h : Bd x) : I64 x := by obtain ⟨h1, h2⟩ := h; exact ⟨by omega, by omega⟩
theorem add_i {x y z u : Int} (hx : Bd x) (hy : Bd y) (hz : Bd z) (hu : Bd u) : I64 (x * y + z * u) := by
  have h := mul_bd hx hy; have h' := mul_bd hz hu; exact ⟨by omega, by omega⟩
set_option maxHeartbeats 400000 in
theorem size_any (x : Int) (w : World) (h1 : -9223372036854775808 ≤ x) (h2 : x ≤ 9223372036854775807) :
    Calls Try.prog 82 #[.int .i64 x] w fun e w' => e = .returned (.int .u64 x.natAbs) ∧ w = w' := by
  by_cases hx : x < 0
  · go_enter Try.func82, Try.ntmps82
    go_wp2
    go_ret
    exact ⟨ret_int (by omega), rfl⟩
  · go_enter Try.func82, Try.ntmps82
    go_wp2
    go_ret
    exact ⟨ret_int (by omega), rfl⟩
set_option maxHeartbeats 400000 in
theorem common_any (x y : Nat) (w : World) (h1 : x ≤ 18446744073709551615) (h2 : y ≤ 18446744073709551615) :
    Calls Try.prog 81 #[.int .u64 x, .int .u64 y] w fun e w' => e = .returned (.int .u64 (Nat.gcd x y : Nat)) ∧ w = w' := by
  go_enter Try.func81, Try.ntmps81
  go_wp2
  go_loopw [0, 1] (fun a b wr => ∃ m n : Nat, m ≤ 18446744073709551615 ∧ n ≤ 18446744073709551615 ∧ a = .int .u64 m ∧ b = .int .u64 n ∧ Hid (Nat.gcd m n = Nat.gcd x y) ∧ w = wr) (fun _ b _ => (intOf b).toNat)
  case atStart => exact ⟨x, y, h1, h2, rfl, rfl, rfl, rfl⟩
  case round =>
    obtain ⟨m, n, hm, hn, rfl, rfl, HG, rfl⟩ := hrel
    by_cases hz : n = 0
    · subst hz
      go_wp2
      go_ret
      exact ⟨ret_int (by have := HG.out; simp at this; omega), rfl⟩
    · have hpos : (1 : Int) ≤ n := by omega
      have hne : ((n : Int) != 0) = true := by simp; omega
      have hem : ((m : Int) % (n : Int)) = ((m % n : Nat) : Int) := by omega
      have hlt := Nat.mod_lt m (y := n) (by omega)
      clear hz
      go_wp2
      rw [hem]
      go_roundw
      case rel => exact ⟨n, m % n, by omega, by omega, rfl, rfl, (gcd_step m n (by omega)).symm.trans HG.out, by first | rfl | trivial⟩
      case measure => simp [intOf]; omega
set_option maxHeartbeats 400000 in
theorem refvalid_any (n d : Int) (w : World) (hn : I64 n) (hd : I64 d) :
    Calls Try.prog 38 #[.agg #[.int .i64 n, .int .i64 d]] w fun e w' => e = .returned (.bool (vld n d)) ∧ Below w.heap.size w w' := by
  obtain ⟨hn1, hn2⟩ := hn
  obtain ⟨hd1, hd2⟩ := hd
  by_cases h1 : d < 1
  · go_enter Try.func38, Try.ntmps38
    go_wp2
    go_ret
    exact ⟨ret_bool (by unfold vld; simp; omega), (Below.refl _ _).alloc (Nat.le_refl _) _⟩
  · by_cases h2 : 1000000000 < d
    · go_enter Try.func38, Try.ntmps38
      go_wp2
      go_ret
      exact ⟨ret_bool (by unfold vld; simp; omega), (Below.refl _ _).alloc (Nat.le_refl _) _⟩
    · by_cases h3 : n < -1000000000
      · go_enter Try.func38, Try.ntmps38
        go_wp2
        go_ret
        exact ⟨ret_bool (by unfold vld; simp; omega), (Below.refl _ _).alloc (Nat.le_refl _) _⟩
      · by_cases h4 : 1000000000 < n
        · go_enter Try.func38, Try.ntmps38
          go_wp2
          go_ret
          exact ⟨ret_bool (by unfold vld; simp; omega), (Below.refl _ _).alloc (Nat.le_refl _) _⟩
        · go_enter Try.func38, Try.ntmps38
          go_wp2_with (first | (go_at_call 82; refine (size_any _ _ (by omega) (by omega)).mono ?_; rintro e w' ⟨rfl, rfl⟩) | (go_at_call 81; refine (common_any _ _ _ (by omega) (by omega)).mono ?_; rintro e w' ⟨rfl, rfl⟩))
          go_quiet ((first | (go_at_call 82; exact quiet_left (size_any _ _ (by omega) (by omega))) | (go_at_call 81; exact quiet_left (common_any _ _ _ (by omega) (by omega)))))
          go_wp2
          go_ret
          exact ⟨ret_bool (vld_last h1 h2 (by omega)), below_drewN' ((Below.refl _ _).alloc (Nat.le_refl _) _) _⟩
set_option maxHeartbeats 400000 in
theorem refmake_zero (n : Int) (w : World) :
    Calls Try.prog 76 #[.int .i64 n, .int .i64 0] w fun e w' => e = .returned (.tuple #[.agg #[.int .i64 0, .int .i64 0], .int .i64 7]) ∧ Below w.heap.size w w' := by
  go_enter Try.func76, Try.ntmps76
  go_wp2
  refine bodyPost_ret (v := .tuple #[.agg #[.int .i64 0, .int .i64 0], .int .i64 7]) (by simp [results, Try.results76, go_sem]) rfl ⟨rfl, ?_⟩
  exact (Below.refl _ _).alloc (Nat.le_refl _) _
set_option maxHeartbeats 800000 in
theorem refmake_r1 (n d : Int) (p q : Nat) (w : World) (hn1 : -9223372036854775808 ≤ n) (hn2 : n ≤ 9223372036854775807) (hd1 : -9223372036854775808 ≤ d) (hd2 : d ≤ 9223372036854775807)
    (hd : (d == 0) = false) (hg : 1 ≤ ((n.natAbs.gcd d.natAbs : Nat) : Int)) (ep : IntKind.u64.wrap ((n.natAbs : Int) / ((n.natAbs.gcd d.natAbs : Nat) : Int)) = (p : Int)) (eq : IntKind.u64.wrap ((d.natAbs : Int) / ((n.natAbs.gcd d.natAbs : Nat) : Int)) = (q : Int)) (hr : (1000000000 : Int) < p) :
    Calls Try.prog 76 #[.int .i64 n, .int .i64 d] w fun e w' => e = .returned (.tuple #[.agg #[.int .i64 0, .int .i64 0], .int .i64 3]) ∧ Below w.heap.size w w' := by
  go_enter Try.func76, Try.ntmps76
  go_wp2_with (first | (go_at_call 82; refine (size_any _ _ (by omega) (by omega)).mono ?_; rintro e w' ⟨rfl, rfl⟩) | (go_at_call 81; refine (common_any _ _ _ (by omega) (by omega)).mono ?_; rintro e w' ⟨rfl, rfl⟩))
  refine bodyPost_ret (v := .tuple #[.agg #[.int .i64 0, .int .i64 0], .int .i64 3]) (by simp [results, Try.results76, go_sem]) rfl ⟨rfl, ?_⟩
  exact (Below.refl _ _).alloc (Nat.le_refl _) _
set_option maxHeartbeats 800000 in
theorem refmake_r2 (n d : Int) (p q : Nat) (w : World) (hn1 : -9223372036854775808 ≤ n) (hn2 : n ≤ 9223372036854775807) (hd1 : -9223372036854775808 ≤ d) (hd2 : d ≤ 9223372036854775807)
    (hd : (d == 0) = false) (hg : 1 ≤ ((n.natAbs.gcd d.natAbs : Nat) : Int)) (ep : IntKind.u64.wrap ((n.natAbs : Int) / ((n.natAbs.gcd d.natAbs : Nat) : Int)) = (p : Int)) (eq : IntKind.u64.wrap ((d.natAbs : Int) / ((n.natAbs.gcd d.natAbs : Nat) : Int)) = (q : Int)) (hr : (p : Int) ≤ 1000000000) (hr2 : (1000000000 : Int) < q) :
    Calls Try.prog 76 #[.int .i64 n, .int .i64 d] w fun e w' => e = .returned (.tuple #[.agg #[.int .i64 0, .int .i64 0], .int .i64 3]) ∧ Below w.heap.size w w' := by
  go_enter Try.func76, Try.ntmps76
  go_wp2_with (first | (go_at_call 82; refine (size_any _ _ (by omega) (by omega)).mono ?_; rintro e w' ⟨rfl, rfl⟩) | (go_at_call 81; refine (common_any _ _ _ (by omega) (by omega)).mono ?_; rintro e w' ⟨rfl, rfl⟩))
  refine bodyPost_ret (v := .tuple #[.agg #[.int .i64 0, .int .i64 0], .int .i64 3]) (by simp [results, Try.results76, go_sem]) rfl ⟨rfl, ?_⟩
  exact (Below.refl _ _).alloc (Nat.le_refl _) _
set_option maxHeartbeats 800000 in
theorem refmake_nn (n d : Int) (p q : Nat) (w : World) (hn1 : -9223372036854775808 ≤ n) (hn2 : n ≤ 9223372036854775807) (hd1 : -9223372036854775808 ≤ d) (hd2 : d ≤ 9223372036854775807)
    (hd : (d == 0) = false) (hg : 1 ≤ ((n.natAbs.gcd d.natAbs : Nat) : Int)) (ep : IntKind.u64.wrap ((n.natAbs : Int) / ((n.natAbs.gcd d.natAbs : Nat) : Int)) = (p : Int)) (eq : IntKind.u64.wrap ((d.natAbs : Int) / ((n.natAbs.gcd d.natAbs : Nat) : Int)) = (q : Int)) (hp : (p : Int) ≤ 1000000000) (hq : (q : Int) ≤ 1000000000) (hn0 : decide (n < 0) = true) (hd0 : decide (d < 0) = true) :
    Calls Try.prog 76 #[.int .i64 n, .int .i64 d] w fun e w' => e = .returned (.tuple #[.agg #[.int .i64 (p), .int .i64 q], .int .i64 0]) ∧ Below w.heap.size w w' := by
  go_enter Try.func76, Try.ntmps76
  go_wp2_with (first | (go_at_call 82; refine (size_any _ _ (by omega) (by omega)).mono ?_; rintro e w' ⟨rfl, rfl⟩) | (go_at_call 81; refine (common_any _ _ _ (by omega) (by omega)).mono ?_; rintro e w' ⟨rfl, rfl⟩))
  refine bodyPost_ret (v := .tuple #[.agg #[.int .i64 (p), .int .i64 q], .int .i64 0]) (by simp [results, Try.results76, go_sem]) rfl ⟨rfl, ?_⟩
  exact ((Below.refl _ _).alloc (Nat.le_refl _) _).alloc (by simp) _
set_option maxHeartbeats 800000 in
theorem refmake_pp (n d : Int) (p q : Nat) (w : World) (hn1 : -9223372036854775808 ≤ n) (hn2 : n ≤ 9223372036854775807) (hd1 : -9223372036854775808 ≤ d) (hd2 : d ≤ 9223372036854775807)
    (hd : (d == 0) = false) (hg : 1 ≤ ((n.natAbs.gcd d.natAbs : Nat) : Int)) (ep : IntKind.u64.wrap ((n.natAbs : Int) / ((n.natAbs.gcd d.natAbs : Nat) : Int)) = (p : Int)) (eq : IntKind.u64.wrap ((d.natAbs : Int) / ((n.natAbs.gcd d.natAbs : Nat) : Int)) = (q : Int)) (hp : (p : Int) ≤ 1000000000) (hq : (q : Int) ≤ 1000000000) (hn0 : decide (n < 0) = false) (hd0 : decide (d < 0) = false) :
    Calls Try.prog 76 #[.int .i64 n, .int .i64 d] w fun e w' => e = .returned (.tuple #[.agg #[.int .i64 (p), .int .i64 q], .int .i64 0]) ∧ Below w.heap.size w w' := by
  go_enter Try.func76, Try.ntmps76
  go_wp2_with (first | (go_at_call 82; refine (size_any _ _ (by omega) (by omega)).mono ?_; rintro e w' ⟨rfl, rfl⟩) | (go_at_call 81; refine (common_any _ _ _ (by omega) (by omega)).mono ?_; rintro e w' ⟨rfl, rfl⟩))
  refine bodyPost_ret (v := .tuple #[.agg #[.int .i64 (p), .int .i64 q], .int .i64 0]) (by simp [results, Try.results76, go_sem]) rfl ⟨rfl, ?_⟩
  exact ((Below.refl _ _).alloc (Nat.le_refl _) _).alloc (by simp) _
set_option maxHeartbeats 800000 in
theorem refmake_np (n d : Int) (p q : Nat) (w : World) (hn1 : -9223372036854775808 ≤ n) (hn2 : n ≤ 9223372036854775807) (hd1 : -9223372036854775808 ≤ d) (hd2 : d ≤ 9223372036854775807)
    (hd : (d == 0) = false) (hg : 1 ≤ ((n.natAbs.gcd d.natAbs : Nat) : Int)) (ep : IntKind.u64.wrap ((n.natAbs : Int) / ((n.natAbs.gcd d.natAbs : Nat) : Int)) = (p : Int)) (eq : IntKind.u64.wrap ((d.natAbs : Int) / ((n.natAbs.gcd d.natAbs : Nat) : Int)) = (q : Int)) (hp : (p : Int) ≤ 1000000000) (hq : (q : Int) ≤ 1000000000) (hn0 : decide (n < 0) = true) (hd0 : decide (d < 0) = false) :
    Calls Try.prog 76 #[.int .i64 n, .int .i64 d] w fun e w' => e = .returned (.tuple #[.agg #[.int .i64 (-p), .int .i64 q], .int .i64 0]) ∧ Below w.heap.size w w' := by
  go_enter Try.func76, Try.ntmps76
  go_wp2_with (first | (go_at_call 82; refine (size_any _ _ (by omega) (by omega)).mono ?_; rintro e w' ⟨rfl, rfl⟩) | (go_at_call 81; refine (common_any _ _ _ (by omega) (by omega)).mono ?_; rintro e w' ⟨rfl, rfl⟩))
  refine bodyPost_ret (v := .tuple #[.agg #[.int .i64 (-p), .int .i64 q], .int .i64 0]) (by simp [results, Try.results76, go_sem]) rfl ⟨rfl, ?_⟩
  exact ((Below.refl _ _).alloc (Nat.le_refl _) _).alloc (by simp) _
set_option maxHeartbeats 800000 in
theorem refmake_pn (n d : Int) (p q : Nat) (w : World) (hn1 : -9223372036854775808 ≤ n) (hn2 : n ≤ 9223372036854775807) (hd1 : -9223372036854775808 ≤ d) (hd2 : d ≤ 9223372036854775807)
    (hd : (d == 0) = false) (hg : 1 ≤ ((n.natAbs.gcd d.natAbs : Nat) : Int)) (ep : IntKind.u64.wrap ((n.natAbs : Int) / ((n.natAbs.gcd d.natAbs : Nat) : Int)) = (p : Int)) (eq : IntKind.u64.wrap ((d.natAbs : Int) / ((n.natAbs.gcd d.natAbs : Nat) : Int)) = (q : Int)) (hp : (p : Int) ≤ 1000000000) (hq : (q : Int) ≤ 1000000000) (hn0 : decide (n < 0) = false) (hd0 : decide (d < 0) = true) :
    Calls Try.prog 76 #[.int .i64 n, .int .i64 d] w fun e w' => e = .returned (.tuple #[.agg #[.int .i64 (-p), .int .i64 q], .int .i64 0]) ∧ Below w.heap.size w w' := by
  go_enter Try.func76, Try.ntmps76
  go_wp2_with (first | (go_at_call 82; refine (size_any _ _ (by omega) (by omega)).mono ?_; rintro e w' ⟨rfl, rfl⟩) | (go_at_call 81; refine (common_any _ _ _ (by omega) (by omega)).mono ?_; rintro e w' ⟨rfl, rfl⟩))
  refine bodyPost_ret (v := .tuple #[.agg #[.int .i64 (-p), .int .i64 q], .int .i64 0]) (by simp [results, Try.results76, go_sem]) rfl ⟨rfl, ?_⟩
  exact ((Below.refl _ _).alloc (Nat.le_refl _) _).alloc (by simp) _
set_option maxRecDepth 100000 in
/-- The reference's Make returns the reduced quotient of any two ints, or ErrZero, or ErrRange. -/
theorem refmake_any (n d : Int) (w : World) (hn : I64 n) (hd : I64 d) :
    Calls Try.prog 76 #[.int .i64 n, .int .i64 d] w fun e w' => e = .returned (.tuple #[.agg #[.int .i64 (mkN n d), .int .i64 (mkD n d)], .int .i64 (mkE n d)]) ∧ Below w.heap.size w w' := by
  obtain ⟨hn1, hn2⟩ := hn
  obtain ⟨hd1, hd2⟩ := hd
  by_cases h0 : d = 0
  · subst h0
    exact refmake_zero n w
  have hg := cd_pos (n := n) h0
  have hb : (d == 0) = false := by simpa using h0
  have hgi : 1 ≤ ((n.natAbs.gcd d.natAbs : Nat) : Int) := by unfold cd at hg; omega
  have l1 : n.natAbs / cd n d ≤ n.natAbs := Nat.div_le_self _ _
  have l2 : d.natAbs / cd n d ≤ d.natAbs := Nat.div_le_self _ _
  have ep : IntKind.u64.wrap ((n.natAbs : Int) / ((n.natAbs.gcd d.natAbs : Nat) : Int)) = ((n.natAbs / cd n d : Nat) : Int) := wrap_div _ (cd n d) (by omega)
  have eq : IntKind.u64.wrap ((d.natAbs : Int) / ((n.natAbs.gcd d.natAbs : Nat) : Int)) = ((d.natAbs / cd n d : Nat) : Int) := wrap_div _ (cd n d) (by omega)
  by_cases hr : 1000000000 < n.natAbs / cd n d ∨ 1000000000 < d.natAbs / cd n d
  · have he : mkE n d = 3 := by simp only [mkE, if_neg h0, if_pos hr]
    rw [show mkN n d = 0 by simp [mkN, he], show mkD n d = 0 by simp [mkD, he], he]
    by_cases hr1 : 1000000000 < n.natAbs / cd n d
    · exact refmake_r1 n d _ _ w hn1 hn2 hd1 hd2 hb hgi ep eq (by omega)
    · exact refmake_r2 n d _ _ w hn1 hn2 hd1 hd2 hb hgi ep eq (by omega) (by omega)
  · have he : mkE n d = 0 := by simp only [mkE, if_neg h0, if_neg hr]
    rw [show mkN n d = rn n d by simp [mkN, he], show mkD n d = rd n d by simp [mkD, he], he]
    have hp : ((n.natAbs / cd n d : Nat) : Int) ≤ 1000000000 := by omega
    have hq : ((d.natAbs / cd n d : Nat) : Int) ≤ 1000000000 := by omega
    unfold rn rd
    by_cases h1 : n < 0 <;> by_cases h2 : d < 0
    · rw [if_pos (by simp [h1, h2])]
      exact refmake_nn n d _ _ w hn1 hn2 hd1 hd2 hb hgi ep eq hp hq (by simp [h1]) (by simp [h2])
    · rw [if_neg (by simp [h1, h2])]
      exact refmake_np n d _ _ w hn1 hn2 hd1 hd2 hb hgi ep eq hp hq (by simp [h1]) (by simp [h2])
    · rw [if_neg (by simp [h1, h2])]
      exact refmake_pn n d _ _ w hn1 hn2 hd1 hd2 hb hgi ep eq hp hq (by simp [h1]) (by simp [h2])
    · rw [if_pos (by simp [h1, h2])]
      exact refmake_pp n d _ _ w hn1 hn2 hd1 hd2 hb hgi ep eq hp hq (by simp [h1]) (by simp [h2])
end Go.Proofs.Ytjjimbaogpmbmaa

namespace Go.Proofs.Ytjjimbaogpmbmaa
open Go.RowKit Go.Sort
open Go.RowKit (Below)
set_option linter.unusedVariables false
set_option linter.unusedSimpArgs false

section
variable {α : Type} {f : α → List Value} {n : Nat}
/-- The cells of a row, one element after another. -/
def flt (f : α → List Value) (L : List α) : List Value := L.flatMap f
theorem flt_len (hf : ∀ x, (f x).length = n) : ∀ L : List α, (flt f L).length = L.length * n
  | [] => by simp [flt]
  | x :: L => by
    show (f x ++ flt f L).length = _
    rw [List.length_append, hf, flt_len hf L, List.length_cons, Nat.add_mul, Nat.one_mul, Nat.add_comm]
theorem flt_snoc (L : List α) (x : α) : flt f L ++ f x = flt f (L ++ [x]) := by simp [flt]
theorem flt_app (L M : List α) : flt f L ++ flt f M = flt f (L ++ M) := by simp [flt]
theorem flt_at (hf : ∀ x, (f x).length = n) : ∀ {L : List α} {k i : Nat} (hk : k < L.length) (hi : i < n), (flt f L)[k * n + i]? = (f L[k])[i]?
  | x :: L, 0, i, _, hi => by
    show (f x ++ flt f L)[0 * n + i]? = _
    rw [Nat.zero_mul, Nat.zero_add, List.getElem?_append_left (by rw [hf]; exact hi)]
    rfl
  | x :: L, k + 1, i, hk, hi => by
    show (f x ++ flt f L)[(k + 1) * n + i]? = _
    rw [List.getElem?_append_right (by rw [hf, Nat.add_mul, Nat.one_mul]; omega), hf, show (k + 1) * n + i - n = k * n + i by rw [Nat.add_mul, Nat.one_mul]; omega]
    exact flt_at hf (L := L) (by simpa using hk) hi
theorem flt_one (h : ∀ x, ∀ u ∈ f x, u.oneCell' = true) (L : List α) : ∀ u ∈ flt f L, u.oneCell' = true := by
  intro u hu
  obtain ⟨x, _, hx⟩ := List.mem_flatMap.1 hu
  exact h x u hx
end
def q4c (q : Q4) : List Value := [.int .i64 q.a, .int .i64 q.b, .int .i64 q.c, .int .i64 q.d]
def bvc (b : Bv) : List Value := [.slice b.A b.xs.length b.C, .int .i64 b.lo, .int .i64 b.hi]
theorem q4c_len (q : Q4) : (q4c q).length = 4 := rfl
theorem bvc_len (b : Bv) : (bvc b).length = 3 := rfl
theorem q4c_one (q : Q4) : ∀ u ∈ q4c q, u.oneCell' = true := by
  intro u hu; simp only [q4c, List.mem_cons, List.not_mem_nil, or_false] at hu
  rcases hu with rfl | rfl | rfl | rfl <;> rfl
theorem bvc_one (q : Bv) : ∀ u ∈ bvc q, u.oneCell' = true := by
  intro u hu; simp only [bvc, List.mem_cons, List.not_mem_nil, or_false] at hu
  rcases hu with rfl | rfl | rfl <;> rfl
theorem bvc_at {L : List Bv} {k : Nat} (hk : k < L.length) : (flt bvc L)[k * 3]? = some (.slice (gdB L k).A (gdB L k).xs.length (gdB L k).C) ∧ (flt bvc L)[k * 3 + 1]? = some (.int .i64 (gdB L k).lo) ∧ (flt bvc L)[k * 3 + 2]? = some (.int .i64 (gdB L k).hi) := by
  have h0 := flt_at bvc_len hk (show 0 < 3 by omega)
  have h1 := flt_at bvc_len hk (show 1 < 3 by omega)
  have h2 := flt_at bvc_len hk (show 2 < 3 by omega)
  rw [← gdB_at hk] at h0 h1 h2
  exact ⟨h0, h1, h2⟩
theorem q4c_at {L : List Q4} {k : Nat} (hk : k < L.length) : (flt q4c L)[k * 4]? = some (.int .i64 (gd4 L k).a) ∧ (flt q4c L)[k * 4 + 1]? = some (.int .i64 (gd4 L k).b) ∧ (flt q4c L)[k * 4 + 2]? = some (.int .i64 (gd4 L k).c) ∧ (flt q4c L)[k * 4 + 3]? = some (.int .i64 (gd4 L k).d) := by
  have h0 := flt_at q4c_len hk (show 0 < 4 by omega)
  have h1 := flt_at q4c_len hk (show 1 < 4 by omega)
  have h2 := flt_at q4c_len hk (show 2 < 4 by omega)
  have h3 := flt_at q4c_len hk (show 3 < 4 by omega)
  rw [← gd4_at hk] at h0 h1 h2 h3
  exact ⟨h0, h1, h2, h3⟩
/-- The cells of a slice, as append takes them. -/
theorem s4_cells {w : World} {b o : Nat} {L : List Q4} (h : S4 w (some ⟨b, o, none⟩) L) (j : Nat) (u : Value) (hu : (flt q4c L)[j]? = some u) : w.cell? ((⟨b, o, none⟩ : Addr).add j) = some u := by
  have hj : j < L.length * 4 := by rw [← flt_len q4c_len]; exact (List.getElem?_eq_some_iff.1 hu).1
  have hk : j / 4 < L.length := by omega
  obtain ⟨b1, o1, e, c0, c1, c2, c3⟩ := h _ hk
  obtain ⟨rfl, rfl⟩ : b = b1 ∧ o = o1 := by simpa using e
  obtain ⟨e0, e1, e2, e3⟩ := q4c_at hk
  rw [add_plain b o j]
  have hm : j % 4 = 0 ∨ j % 4 = 1 ∨ j % 4 = 2 ∨ j % 4 = 3 := by omega
  rcases hm with p | p | p | p
  · rw [show j / 4 * 4 = j by omega] at e0 c0; rw [e0] at hu; rw [c0, hu]
  · rw [show j / 4 * 4 + 1 = j by omega] at e1; rw [show o + j / 4 * 4 + 1 = o + j by omega] at c1; rw [e1] at hu; rw [c1, hu]
  · rw [show j / 4 * 4 + 2 = j by omega] at e2; rw [show o + j / 4 * 4 + 2 = o + j by omega] at c2; rw [e2] at hu; rw [c2, hu]
  · rw [show j / 4 * 4 + 3 = j by omega] at e3; rw [show o + j / 4 * 4 + 3 = o + j by omega] at c3; rw [e3] at hu; rw [c3, hu]
theorem bds_cells {w : World} {b o : Nat} {L : List Bv} (h : BdS w (some ⟨b, o, none⟩) L) (j : Nat) (u : Value) (hu : (flt bvc L)[j]? = some u) : w.cell? ((⟨b, o, none⟩ : Addr).add j) = some u := by
  have hj : j < L.length * 3 := by rw [← flt_len bvc_len]; exact (List.getElem?_eq_some_iff.1 hu).1
  have hk : j / 3 < L.length := by omega
  obtain ⟨b1, o1, e, c0, c1, c2, _⟩ := h _ hk
  obtain ⟨rfl, rfl⟩ : b = b1 ∧ o = o1 := by simpa using e
  obtain ⟨e0, e1, e2⟩ := bvc_at hk
  rw [add_plain b o j]
  have hm : j % 3 = 0 ∨ j % 3 = 1 ∨ j % 3 = 2 := by omega
  rcases hm with p | p | p
  · rw [show j / 3 * 3 = j by omega] at e0 c0; rw [e0] at hu; rw [c0, hu]
  · rw [show j / 3 * 3 + 1 = j by omega] at e1; rw [show o + j / 3 * 3 + 1 = o + j by omega] at c1; rw [e1] at hu; rw [c1, hu]
  · rw [show j / 3 * 3 + 2 = j by omega] at e2; rw [show o + j / 3 * 3 + 2 = o + j by omega] at c2; rw [e2] at hu; rw [c2, hu]
theorem gdB_app_l {L M : List Bv} {i : Nat} (h : i < L.length) : gdB (L ++ M) i = gdB L i := by
  unfold gdB; rw [List.getD_eq_getElem?_getD, List.getD_eq_getElem?_getD, List.getElem?_append_left h]
theorem gdB_app_r {L M : List Bv} {i : Nat} (h : ¬ i < L.length) : gdB (L ++ M) i = gdB M (i - L.length) := by
  unfold gdB; rw [List.getD_eq_getElem?_getD, List.getD_eq_getElem?_getD, List.getElem?_append_right (by omega)]
theorem gd4_app_l {L M : List Q4} {i : Nat} (h : i < L.length) : gd4 (L ++ M) i = gd4 L i := by
  unfold gd4; rw [List.getD_eq_getElem?_getD, List.getD_eq_getElem?_getD, List.getElem?_append_left h]
theorem gd4_app_r {L M : List Q4} {i : Nat} (h : ¬ i < L.length) : gd4 (L ++ M) i = gd4 M (i - L.length) := by
  unfold gd4; rw [List.getD_eq_getElem?_getD, List.getD_eq_getElem?_getD, List.getElem?_append_right (by omega)]
theorem s4_src {w : World} {A : Option Addr} {L : List Q4} (h : S4 w A L) : Src w A (flt q4c L) := fun j u hu => by
  have hj : j < L.length * 4 := by rw [← flt_len q4c_len]; exact (List.getElem?_eq_some_iff.1 hu).1
  obtain ⟨b1, o1, rfl, _⟩ := h (j / 4) (by omega)
  exact ⟨_, rfl, s4_cells h j u hu⟩
theorem bds_src {w : World} {A : Option Addr} {L : List Bv} (h : BdS w A L) : Src w A (flt bvc L) := fun j u hu => by
  have hj : j < L.length * 3 := by rw [← flt_len bvc_len]; exact (List.getElem?_eq_some_iff.1 hu).1
  obtain ⟨b1, o1, rfl, _⟩ := h (j / 3) (by omega)
  exact ⟨_, rfl, bds_cells h j u hu⟩
/-- A row of one's own as a slice of targets, of bodies. -/
theorem own_s4 {w : World} {base n : Nat} {e : TypeId} {v : Value} {L : List Q4} (h : w.ownsRow base e 4 v n (flt q4c L)) : ∃ A C, v = .slice A L.length C ∧ n = L.length ∧ L.length ≤ C ∧ C ≤ maxLen ∧ S4 w A L := by
  have hn : n = L.length := by have := h.1; rw [flt_len q4c_len] at this; omega
  subst hn
  obtain ⟨A, C, hv, h1, h2, hc⟩ := own_form h
  refine ⟨A, C, hv, rfl, h1, h2, fun k hk => ?_⟩
  obtain ⟨e0, e1, e2, e3⟩ := q4c_at hk
  obtain ⟨g, rfl, _, c0⟩ := hc _ _ e0
  obtain ⟨g1, k1, _, c1⟩ := hc _ _ e1
  obtain ⟨g2, k2, _, c2⟩ := hc _ _ e2
  obtain ⟨g3, k3, _, c3⟩ := hc _ _ e3
  obtain rfl : g = g1 := by simpa using k1
  obtain rfl : g = g2 := by simpa using k2
  obtain rfl : g = g3 := by simpa using k3
  exact ⟨g, 0, rfl, by rw [Nat.zero_add]; exact c0, by rw [Nat.zero_add]; exact c1, by rw [Nat.zero_add]; exact c2, by rw [Nat.zero_add]; exact c3⟩
theorem own_bds {w : World} {base n : Nat} {e : TypeId} {v : Value} {L : List Bv} (h : w.ownsRow base e 3 v n (flt bvc L)) (hs : ∀ k, k < L.length → SlS w (gdB L k).A (gdB L k).xs) : ∃ A C, v = .slice A L.length C ∧ n = L.length ∧ L.length ≤ C ∧ C ≤ maxLen ∧ BdS w A L := by
  have hn : n = L.length := by have := h.1; rw [flt_len bvc_len] at this; omega
  subst hn
  obtain ⟨A, C, hv, h1, h2, hc⟩ := own_form h
  refine ⟨A, C, hv, rfl, h1, h2, fun k hk => ?_⟩
  obtain ⟨e0, e1, e2⟩ := bvc_at hk
  obtain ⟨g, rfl, _, c0⟩ := hc _ _ e0
  obtain ⟨g1, k1, _, c1⟩ := hc _ _ e1
  obtain ⟨g2, k2, _, c2⟩ := hc _ _ e2
  obtain rfl : g = g1 := by simpa using k1
  obtain rfl : g = g2 := by simpa using k2
  exact ⟨g, 0, rfl, by rw [Nat.zero_add]; exact c0, by rw [Nat.zero_add]; exact c1, by rw [Nat.zero_add]; exact c2, hs k hk⟩
end Go.Proofs.Ytjjimbaogpmbmaa
