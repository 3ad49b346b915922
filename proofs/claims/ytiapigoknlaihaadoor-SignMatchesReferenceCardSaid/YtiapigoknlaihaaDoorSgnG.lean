/-
  The laws' small functions: few, secret, moved; plain facts of signatures.
-/
import Derived.Test.YtiapigoknlaihaaDoorSgnF
namespace Go.Proofs.YtiapigoknlaihaaDoor
open Go.RowKit Go.Sort
open Go.RowKit (Below)
set_option linter.unusedVariables false
set_option linter.unusedSimpArgs false

/-! ### few, secret, moved -/
theorem few_nil (C : Nat) (w : World) : Calls Tryd.prog 17 #[.slice none 0 C] w fun e w' => e = .returned (.slice none 0 C) ∧ w = w' := by
  go_enter Tryd.func17, Tryd.ntmps17
  go_wp2
  go_ret
  exact ⟨rfl, rfl⟩
theorem few_all (a : Addr) (n C : Nat) (h1 : n ≤ C) (h2 : n ≤ 32) (hC : C ≤ 9223372036854775807) (w : World) : Calls Tryd.prog 17 #[.slice (some a) n C] w fun e w' => e = .returned (.slice (some a) n C) ∧ w = w' := by
  have hm : min (n : Int) 32 = n := by omega
  go_enter Tryd.func17, Tryd.ntmps17
  go_wp2
  go_ret
  exact ⟨rfl, rfl⟩
theorem few_cut (a : Addr) (n C : Nat) (h1 : n ≤ C) (h2 : 32 < n) (hC : C ≤ 9223372036854775807) (w : World) : Calls Tryd.prog 17 #[.slice (some a) n C] w fun e w' => e = .returned (.slice (some a) 32 C) ∧ w = w' := by
  have hm : min (n : Int) 32 = 32 := by omega
  go_enter Tryd.func17, Tryd.ntmps17
  go_wp2
  go_ret
  exact ⟨rfl, rfl⟩
theorem few_any (A : Option Addr) (C : Nat) (xs ys : List Int) (hy : xs.take 32 = ys) (w0 w : World) (hS : Sk .i64 w0 A xs) (h1 : xs.length ≤ C) (hC : C ≤ 9223372036854775807) : Calls Tryd.prog 17 #[.slice A xs.length C] w fun e w' => e = .returned (.slice A ys.length C) ∧ w = w' := by
  subst hy
  cases A with
  | none =>
    have hx : xs = [] := by
      cases xs with
      | nil => rfl
      | cons a r => obtain ⟨b, o, e, _⟩ := hS 0 (by simp); cases e
    subst hx
    exact few_nil C w
  | some a =>
    by_cases h : xs.length ≤ 32
    · rw [List.take_of_length_le h]
      exact few_all a _ C h1 h hC w
    · rw [show (xs.take 32).length = 32 by simp; omega]
      exact few_cut a _ C h1 (by omega) hC w
/-- The first 32 integers. -/
structure Few (w : World) (A : Option Addr) (xs ys : List Int) : Prop where
  tk : xs.take 32 = ys
  len : ys.length ≤ 32
  i : ∀ y ∈ ys, I64 y
  sk : Sk .i64 w A ys
theorem few_mk {w : World} {A : Option Addr} {xs : List Int} (h : Sk .i64 w A xs) (hi : ∀ x ∈ xs, I64 x) : ∃ ys, Few w A xs ys :=
  ⟨_, rfl, by simp; omega, fun y hy => hi y (List.mem_of_mem_take hy), h.take 32⟩

theorem secret_is (n : Int) (hn : U64 n) (x : Nat) (hx : 1 + n % 1073741788 = (x : Int)) (w : World) :
    Calls Tryd.prog 18 #[.int .u64 n] w fun e w' => e = .returned (.int .i64 x) ∧ w = w' := by
  obtain ⟨h1, h2⟩ := hn
  have f1 : IntKind.i64.wrap (n % 1073741788) = n % 1073741788 := IntWalk.i64_in _ ⟨by omega, by omega⟩
  have f2 : IntKind.i64.wrap (1 + n % 1073741788) = 1 + n % 1073741788 := IntWalk.i64_in _ ⟨by omega, by omega⟩
  have HX := Lib.hid hx
  clear hx
  go_enter Tryd.func18, Tryd.ntmps18
  go_wp2
  go_ret
  exact ⟨ret_int HX.out, rfl⟩
theorem secret_ex (n : Int) (hn : U64 n) : ∃ x : Nat, 1 + n % 1073741788 = (x : Int) ∧ 1 ≤ x ∧ x < 1073741789 :=
  ⟨(1 + n % 1073741788).toNat, by omega, by omega, by omega⟩
theorem moved_is (x : Nat) (hx : x < 1073741789) (y : Int) (hy : I64 y) : ∃ z : Nat, z < 1073741789 ∧ ∀ w, Calls Tryd.prog 20 #[.int .i64 x, .int .i64 y] w fun e w' => e = .returned (.int .i64 z) ∧ w = w' := by
  obtain ⟨t, ht⟩ : ∃ t, y.tmod 1073741789 = t := ⟨_, rfl⟩
  have t1 : -1073741789 < t ∧ t < 1073741789 := by
    have h1 := Int.tmod_lt_of_pos y (show (0 : Int) < 1073741789 by omega)
    have h2 := Int.tmod_lt_of_pos (-y) (show (0 : Int) < 1073741789 by omega)
    rw [Int.neg_tmod] at h2
    omega
  obtain ⟨u, hu⟩ : ∃ u, ((x : Int) + t).tmod 1073741789 = u := ⟨_, rfl⟩
  have u1 : -1073741789 < u ∧ u < 1073741789 := by
    have h1 := Int.tmod_lt_of_pos ((x : Int) + t) (show (0 : Int) < 1073741789 by omega)
    have h2 := Int.tmod_lt_of_pos (-((x : Int) + t)) (show (0 : Int) < 1073741789 by omega)
    rw [Int.neg_tmod] at h2
    omega
  refine ⟨((u + 1073741789) % 1073741789).toNat, by omega, fun w => ?_⟩
  have f1 : IntKind.i64.wrap ((x : Int) + t) = x + t := IntWalk.i64_in _ ⟨by omega, by omega⟩
  have f2 : IntKind.i64.wrap (u + 1073741789) = u + 1073741789 := IntWalk.i64_in _ ⟨by omega, by omega⟩
  have f3 : (u + 1073741789).tmod 1073741789 = (u + 1073741789) % 1073741789 := Int.tmod_eq_emod_of_nonneg (by omega)
  have HF := Lib.hid (show (u + 1073741789) % 1073741789 = (((u + 1073741789) % 1073741789).toNat : Int) by omega)
  clear hy t1 u1 hx
  go_enter Tryd.func20, Tryd.ntmps20
  go_wp2
  go_ret
  exact ⟨ret_int (by have := HF.out; omega), rfl⟩

/-! ### Signatures, plain -/
theorem pwr_el (x : Nat) : eltB (pwr 4 x : Nat) = true := by
  have h1 := pwr_lt 4 x
  have h2 : pwr (pwr 4 x) qq = 1 := by
    unfold pwr
    rw [← Nat.pow_mod, ← Nat.pow_mul, Nat.mul_comm, Nat.pow_mul, Nat.pow_mod, four_q, Nat.one_pow]
    rfl
  have h3 : pwr 4 x ≠ 0 := by
    intro e
    rw [e] at h2
    unfold pwr at h2
    rw [Nat.zero_pow (by decide)] at h2
    exact absurd h2 (by decide)
  unfold eltB
  rw [Int.toNat_natCast, h2]
  simp; omega
theorem bak_right (k o e : Nat) (he : e < 1073741789) : bakN (pwr 4 k) e ((o + e * k) % 1073741789) = pwr 4 o := back_once k o e he
/-- What a secret's signature comes to. -/
structure SF (x o : Nat) (msg : List Int) (p e s : Nat) : Prop where
  fV : pubV x = (p : Int)
  fE : pubE x = 0
  pw : pwr 4 x = p
  lp : p < 2147483579
  el : eltB (p : Int) = true
  err : sgnE x o msg = 0
  fC : sgnC x o msg = (e : Int)
  fS : sgnS x o msg = (s : Int)
  le : e < 1073741789
  ls : s < 1073741789
  isC : chV (pwr 4 o : Nat) p msg = (e : Int)
  isS : (o + e * x) % 1073741789 = s
  ex : expB (e : Int) = true
  es : expB (s : Int) = true
theorem sec_ok {x : Nat} (h1 : 1 ≤ x) (h2 : x < 1073741789) : secB (x : Int) = true := by unfold secB; simp; omega
theorem exp_ok {x : Nat} (h2 : x < 1073741789) : expB (x : Int) = true := by unfold expB; simp; omega
theorem sf {x o : Nat} {msg : List Int} (x1 : 1 ≤ x) (x2 : x < 1073741789) (o1 : 1 ≤ o) (o2 : o < 1073741789) (hl : msg.length ≤ 32) : ∃ p e s, SF x o msg p e s := by
  obtain ⟨c1, c2⟩ := chV_bd (pwr 4 o : Nat) (pwr 4 x : Nat) msg
  obtain ⟨e, he⟩ := Int.eq_ofNat_of_zero_le c1
  have hE : sgnE x o msg = 0 := by unfold sgnE; rw [if_pos ⟨sec_ok x1 x2, sec_ok o1 o2⟩, if_pos hl]
  have hC : sgnC x o msg = (e : Int) := by unfold sgnC; rw [if_pos hE, Int.toNat_natCast, Int.toNat_natCast]; exact he
  have hS : sgnS x o msg = (((o + e * x) % 1073741789 : Nat) : Int) := by unfold sgnS; rw [if_pos hE, hC, Int.natCast_emod, Int.natCast_add, Int.natCast_mul]; rfl
  exact ⟨_, e, _, ⟨by unfold pubV; rw [if_pos (sec_ok x1 x2), Int.toNat_natCast], by unfold pubE; rw [if_pos (sec_ok x1 x2)], rfl, pwr_lt _ _, pwr_el x, hE, hC, hS, by omega, Nat.mod_lt _ (by decide), he, rfl, exp_ok (by omega), exp_ok (Nat.mod_lt _ (by decide))⟩⟩
/-- Verify of any exponents with a public key. -/
theorem vf_ok {p e s : Nat} {msg : List Int} (hp : eltB (p : Int) = true) (he : e < 1073741789) (hs : s < 1073741789) (hl : msg.length ≤ 32) : vfE p e s msg = 0 := by
  unfold vfE; rw [if_pos ⟨hp, exp_ok he, exp_ok hs⟩, if_pos hl]
theorem SF.right {x o : Nat} {msg : List Int} {p e s : Nat} (h : SF x o msg p e s) (hl : msg.length ≤ 32) : vfB p e s msg = true := by
  unfold vfB
  rw [if_pos (vf_ok h.el h.le h.ls hl)]
  rw [decide_eq_true_eq]
  simp only [Int.toNat_natCast]
  rw [← h.isS, ← h.pw, bak_right x o e h.le, h.pw]
  exact h.isC.symm
theorem vf_is {p e s : Nat} {msg : List Int} {v : Int} (hp : eltB (p : Int) = true) (he : e < 1073741789) (hs : s < 1073741789) (hl : msg.length ≤ 32) (hv : chV (bakN p e s : Nat) p msg = v) : vfB p e s msg = (v == (e : Int)) := by
  unfold vfB
  rw [if_pos (vf_ok hp he hs hl)]
  simp only [Int.toNat_natCast, hv]
  rw [eq_comm]
  exact beq_flip rfl
end Go.Proofs.YtiapigoknlaihaaDoor
