/-
  Plain facts, no function of the program: digests of lists of bytes, the bytes of a number, levels, roots, paths, checks.
-/
import Derived.Test.YtiapigoknlaihaaDoorGenA
import Derived.Laws.BitsAllLaws
namespace Go.Proofs.YtiapigoknlaihaaDoor
open Go.RowKit Go.Sort
open Go.RowKit (Below)
set_option linter.unusedVariables false

def U64 (x : Int) : Prop := 0 ≤ x ∧ x ≤ 18446744073709551615
def U8 (x : Int) : Prop := 0 ≤ x ∧ x ≤ 255
/-- One byte more. -/
def stp (h b : Int) : Int := IntKind.u64.wrap (bits .xor .u64 h (IntKind.u64.wrap b) * 1099511628211)
theorem stp_eq {h b : Int} (hb : U8 b) : stp h b = IntKind.u64.wrap (bits .xor .u64 h b * 1099511628211) := by
  unfold stp
  rw [IntKind.wrap_u64 b, Int.emod_eq_of_lt hb.1 (by have := hb.2; omega)]
theorem stp_u (h b : Int) : U64 (stp h b) := by
  unfold stp U64
  rw [IntKind.wrap_u64]
  omega
theorem mul_inj {a b : Int} (ha : U64 a) (hb : U64 b) (h : a * 1099511628211 % 18446744073709551616 = b * 1099511628211 % 18446744073709551616) : a = b := by
  have e : ∀ x : Int, U64 x → (x * 1099511628211 % 18446744073709551616) * 14886173955864302971 % 18446744073709551616 = x := by
    intro x hx
    obtain ⟨h1, h2⟩ := hx
    omega
  rw [← e a ha, ← e b hb, h]
theorem xor_u {h b : Int} (hh : U64 h) (hb : U8 b) : ∃ A B : Nat, h = A ∧ b = B ∧ bits .xor .u64 h b = ((A ^^^ B : Nat) : Int) ∧ A ^^^ B < 18446744073709551616 := by
  obtain ⟨A, rfl⟩ := Int.eq_ofNat_of_zero_le hh.1
  obtain ⟨B, rfl⟩ := Int.eq_ofNat_of_zero_le hb.1
  have h1 : A < 18446744073709551616 := by have := hh.2; omega
  have h2 : B < 18446744073709551616 := by have := hb.2; omega
  exact ⟨A, B, rfl, rfl, bits_xor_u64_nat A B h1 h2, Nat.xor_lt_two_pow (n := 64) h1 h2⟩
theorem xor_cancel_left {A B C : Nat} (h : A ^^^ B = A ^^^ C) : B = C := by
  have := congrArg (A ^^^ ·) h
  simpa [← Nat.xor_assoc] using this
theorem u_of {n : Nat} {x : Int} (e : x = (n : Int)) (h : n < 18446744073709551616) : U64 x := by subst e; constructor <;> omega
theorem stp_inj {h h' b b' : Int} (hh : U64 h) (hh' : U64 h') (hb : U8 b) (hb' : U8 b') (e : stp h b = stp h' b') : bits .xor .u64 h b = bits .xor .u64 h' b' := by
  rw [stp_eq hb, stp_eq hb'] at e
  obtain ⟨A, B, rfl, rfl, e1, l1⟩ := xor_u hh hb
  obtain ⟨A', B', rfl, rfl, e2, l2⟩ := xor_u hh' hb'
  rw [IntKind.wrap_u64, IntKind.wrap_u64] at e
  exact mul_inj (u_of e1 l1) (u_of e2 l2) e
theorem stp_inj_h {h h' b : Int} (hh : U64 h) (hh' : U64 h') (hb : U8 b) (e : stp h b = stp h' b) : h = h' := by
  have := stp_inj hh hh' hb hb e
  obtain ⟨A, B, rfl, rfl, e1, l1⟩ := xor_u hh hb
  obtain ⟨A', B', rfl, eB, e2, l2⟩ := xor_u hh' hb
  have : B = B' := by omega
  subst this
  rw [e1, e2] at this
  have h3 : A ^^^ B = A' ^^^ B := by omega
  rw [Nat.xor_comm, Nat.xor_comm A'] at h3
  rw [xor_cancel_left h3]
theorem stp_inj_b {h b b' : Int} (hh : U64 h) (hb : U8 b) (hb' : U8 b') (e : stp h b = stp h b') : b = b' := by
  have := stp_inj hh hh hb hb' e
  obtain ⟨A, B, rfl, rfl, e1, l1⟩ := xor_u hh hb
  obtain ⟨A', B', eA, rfl, e2, l2⟩ := xor_u hh hb'
  have : A = A' := by omega
  subst this
  rw [e1, e2] at this
  have h3 : A ^^^ B = A ^^^ B' := by omega
  rw [xor_cancel_left h3]

/-- The digest with more bytes. -/
def fnv (h : Int) (bs : List Int) : Int := bs.foldl stp h
theorem fnv_app (h : Int) (xs ys : List Int) : fnv h (xs ++ ys) = fnv (fnv h xs) ys := by simp [fnv]
theorem fnv_snoc (h : Int) (xs : List Int) (b : Int) : fnv h (xs ++ [b]) = stp (fnv h xs) b := by simp [fnv]
theorem fnv_u {h : Int} (hh : U64 h) : ∀ bs : List Int, U64 (fnv h bs) := by
  intro bs
  induction bs generalizing h with
  | nil => exact hh
  | cons b r ih => exact ih (stp_u h b)
theorem fnv_inj {bs : List Int} (hb : ∀ b ∈ bs, U8 b) : ∀ {h h' : Int}, U64 h → U64 h' → fnv h bs = fnv h' bs → h = h' := by
  induction bs with
  | nil => intro h h' _ _ e; exact e
  | cons b r ih =>
    intro h h' hh hh' e
    exact stp_inj_h hh hh' (hb b (by simp)) (ih (fun x hx => hb x (by simp [hx])) (stp_u _ _) (stp_u _ _) e)
/-- The digest of bytes. -/
def dig (bs : List Int) : Int := fnv 14695981039346656037 bs
theorem start_u : U64 14695981039346656037 := by constructor <;> decide
theorem dig_u (bs : List Int) : U64 (dig bs) := fnv_u start_u bs
theorem dig_behind {xs ys zs : List Int} (hz : ∀ b ∈ zs, U8 b) : dig (xs ++ zs) = dig (ys ++ zs) ↔ dig xs = dig ys := by
  unfold dig
  rw [fnv_app, fnv_app]
  exact ⟨fun e => fnv_inj hz (fnv_u start_u _) (fnv_u start_u _) e, fun e => by rw [e]⟩
theorem dig_byte {xs zs : List Int} {b b' : Int} (hz : ∀ b ∈ zs, U8 b) (hb : U8 b) (hb' : U8 b') (hne : b ≠ b') : dig (xs ++ b :: zs) ≠ dig (xs ++ b' :: zs) := by
  intro e
  unfold dig at e
  rw [fnv_app, fnv_app] at e
  exact hne (stp_inj_b (fnv_u start_u xs) hb hb' (fnv_inj hz (stp_u _ _) (stp_u _ _) e))

/-- The bytes of a number. -/
def be8 (n : Int) : List Int := [n / 72057594037927936 % 256, n / 281474976710656 % 256, n / 1099511627776 % 256, n / 4294967296 % 256, n / 16777216 % 256, n / 65536 % 256, n / 256 % 256, n % 256]
theorem be8_len (n : Int) : (be8 n).length = 8 := rfl
theorem be8_u (n : Int) : ∀ b ∈ be8 n, U8 b := by
  intro b hb
  simp [be8] at hb
  unfold U8
  omega
theorem be8_sum {n : Int} (h : U64 n) : n = (n / 72057594037927936 % 256) * 72057594037927936 + (n / 281474976710656 % 256) * 281474976710656 + (n / 1099511627776 % 256) * 1099511627776 + (n / 4294967296 % 256) * 4294967296 + (n / 16777216 % 256) * 16777216 + (n / 65536 % 256) * 65536 + (n / 256 % 256) * 256 + n % 256 := by
  obtain ⟨h1, h2⟩ := h
  omega
theorem be8_inj {n m : Int} (hn : U64 n) (hm : U64 m) (e : be8 n = be8 m) : n = m := by
  simp only [be8, List.cons.injEq, and_true] at e
  obtain ⟨e1, e2, e3, e4, e5, e6, e7, e8⟩ := e
  rw [be8_sum hn, be8_sum hm, e1, e2, e3, e4, e5, e6, e7, e8]
def leafB (n : Int) : List Int := 0 :: be8 n
def pairB (a b : Int) : List Int := 1 :: (be8 a ++ be8 b)
def leafN (n : Int) : Int := dig (leafB n)
def pairN (a b : Int) : Int := dig (pairB a b)
theorem leafN_u (n : Int) : U64 (leafN n) := dig_u _
theorem pairN_u (a b : Int) : U64 (pairN a b) := dig_u _
theorem leafB_inj {n m : Int} (hn : U64 n) (hm : U64 m) (e : leafB n = leafB m) : n = m := be8_inj hn hm (by simpa [leafB] using e)
theorem pairB_inj {a b c d : Int} (ha : U64 a) (hb : U64 b) (hc : U64 c) (hd : U64 d) (e : pairB a b = pairB c d) : a = c ∧ b = d := by
  have e' : be8 a ++ be8 b = be8 c ++ be8 d := by simpa [pairB] using e
  obtain ⟨e1, e2⟩ := List.append_inj e' rfl
  exact ⟨be8_inj ha hc e1, be8_inj hb hd e2⟩

/-- The next level. -/
def up : List Int → List Int
  | a :: b :: r => pairN a b :: up r
  | [a] => [a]
  | [] => []
theorem up_len : ∀ l : List Int, (up l).length = (l.length + 1) / 2
  | a :: b :: r => by simp [up, up_len r]; omega
  | [a] => by simp [up]
  | [] => by simp [up]
theorem up_u : ∀ {l : List Int}, (∀ x ∈ l, U64 x) → ∀ x ∈ up l, U64 x
  | a :: b :: r, h => by
    intro x hx
    simp only [up, List.mem_cons] at hx
    rcases hx with rfl | hx
    · exact pairN_u a b
    · exact up_u (fun y hy => h y (by simp [hy])) x hx
  | [a], h => h
  | [], h => h
theorem up_app : ∀ {xs ys : List Int}, xs.length % 2 = 0 → up (xs ++ ys) = up xs ++ up ys
  | a :: b :: r, ys, h => by
    simp only [List.cons_append, up]
    rw [up_app (by simp at h; omega)]
  | [a], ys, h => by simp at h
  | [], ys, h => rfl
/-- The root. -/
def rootL (l : List Int) : Int := if h : 1 < l.length then rootL (up l) else gd l 0
termination_by l.length
decreasing_by rw [up_len]; omega
theorem rootL_one {l : List Int} (h : ¬ 1 < l.length) : rootL l = gd l 0 := by rw [rootL, dif_neg h]
theorem rootL_up {l : List Int} (h : 1 < l.length) : rootL l = rootL (up l) := by rw [rootL, dif_pos h]
theorem rootL_up' {l : List Int} (h : 0 < l.length) : rootL (up l) = rootL l := by
  by_cases h1 : 1 < l.length
  · rw [rootL_up h1]
  · obtain ⟨a, rfl⟩ := List.length_eq_one_iff.1 (show l.length = 1 by omega)
    rfl
theorem take_up {l : List Int} {m : Nat} (h : 2 * m ≤ l.length) : up (l.take (2 * m)) = (up l).take m ∧ up (l.drop (2 * m)) = (up l).drop m := by
  have e : up l = up (l.take (2 * m)) ++ up (l.drop (2 * m)) := by
    rw [← up_app (by rw [List.length_take]; omega), List.take_append_drop]
  have hl : (up (l.take (2 * m))).length = m := by rw [up_len, List.length_take]; omega
  constructor
  · rw [e, List.take_left' hl]
  · rw [e, List.drop_left' hl]
theorem rootL_split : ∀ (j : Nat) (l : List Int), 2 ^ j < l.length → l.length ≤ 2 * 2 ^ j → rootL l = pairN (rootL (l.take (2 ^ j))) (rootL (l.drop (2 ^ j)))
  | 0, l, h1, h2 => by
    obtain ⟨a, b, rfl⟩ : ∃ a b, l = [a, b] := by
      match l, h1, h2 with
      | [], h1, _ => simp at h1
      | x :: [], h1, _ => simp at h1
      | x :: y :: [], _, _ => exact ⟨x, y, rfl⟩
      | x :: y :: z :: r, _, h2 => simp at h2
    rw [rootL_up (by simp), rootL_one (by simp [up]), rootL_one (by simp), rootL_one (by simp)]
    simp [up, gd]
  | j + 1, l, h1, h2 => by
    have hp : 0 < 2 ^ j := Nat.pow_pos (by omega)
    have e : 2 ^ (j + 1) = 2 * 2 ^ j := by rw [Nat.pow_succ, Nat.mul_comm]
    rw [e] at h1 h2 ⊢
    obtain ⟨t1, t2⟩ := take_up (l := l) (m := 2 ^ j) (by omega)
    rw [rootL_up (l := l) (by omega), rootL_split j (up l) (by rw [up_len]; omega) (by rw [up_len]; omega), ← t1, ← t2, rootL_up' (by rw [List.length_take]; omega), rootL_up' (by rw [List.length_drop]; omega)]
theorem up_at : ∀ {l : List Int} {k : Nat}, 2 * k + 1 < l.length → gd (up l) k = pairN (gd l (2 * k)) (gd l (2 * k + 1))
  | a :: b :: r, 0, h => by simp [up, gd]
  | a :: b :: r, k + 1, h => by
    have := up_at (l := r) (k := k) (by simp at h; omega)
    simp only [up, gd] at this ⊢
    rw [show 2 * (k + 1) = 2 * k + 1 + 1 by omega]
    simpa using this
  | [a], k, h => by simp at h
  | [], k, h => by simp at h
theorem up_last : ∀ {l : List Int} {k : Nat}, 2 * k + 1 = l.length → gd (up l) k = gd l (2 * k)
  | a :: b :: r, 0, h => by simp at h
  | a :: b :: r, k + 1, h => by
    have := up_last (l := r) (k := k) (by simp at h; omega)
    simp only [up, gd] at this ⊢
    rw [show 2 * (k + 1) = 2 * k + 1 + 1 by omega]
    simpa using this
  | [a], 0, h => by simp [up, gd]
  | [a], k + 1, h => by simp at h
  | [], k, h => by simp at h

/-- What stands beside the way at a level. -/
def sib (l : List Int) (i : Nat) : List Int := if i % 2 = 1 then [gd l (i - 1)] else if i + 1 < l.length then [gd l (i + 1)] else []
/-- The path of a leaf. -/
def pathL (l : List Int) (i : Nat) : List Int := if h : 1 < l.length then sib l i ++ pathL (up l) (i / 2) else []
termination_by l.length
decreasing_by rw [up_len]; omega
theorem pathL_one {l : List Int} (i : Nat) (h : ¬ 1 < l.length) : pathL l i = [] := by rw [pathL, dif_neg h]
theorem pathL_up {l : List Int} (i : Nat) (h : 1 < l.length) : pathL l i = sib l i ++ pathL (up l) (i / 2) := by rw [pathL, dif_pos h]
theorem sib_len (l : List Int) (i : Nat) : (sib l i).length ≤ 1 := by unfold sib; split <;> (try split) <;> simp
theorem pathL_len : ∀ (j : Nat) (l : List Int) (i : Nat), l.length ≤ 2 ^ j → (pathL l i).length ≤ j
  | 0, l, i, h => by rw [pathL_one i (by simp at h; omega)]; simp
  | j + 1, l, i, h => by
    by_cases h1 : 1 < l.length
    · rw [pathL_up i h1, List.length_append]
      have := pathL_len j (up l) (i / 2) (by rw [up_len]; rw [Nat.pow_succ] at h; omega)
      have := sib_len l i
      omega
    · rw [pathL_one i h1]; simp
theorem gd_u {l : List Int} (h : ∀ x ∈ l, U64 x) (k : Nat) : U64 (gd l k) := by
  by_cases hk : k < l.length
  · exact h _ (getD_mem hk)
  · rw [gd, List.getD_eq_getElem?_getD, List.getElem?_eq_none (by omega)]
    constructor <;> decide
theorem sib_u {l : List Int} (h : ∀ x ∈ l, U64 x) (i : Nat) : ∀ x ∈ sib l i, U64 x := by
  intro x hx
  unfold sib at hx
  split at hx
  · simp at hx; subst hx; exact gd_u h _
  · split at hx
    · simp at hx; subst hx; exact gd_u h _
    · simp at hx
theorem pathL_u : ∀ (j : Nat) (l : List Int) (i : Nat), l.length ≤ j → (∀ x ∈ l, U64 x) → ∀ x ∈ pathL l i, U64 x
  | 0, l, i, h, _ => by rw [pathL_one i (by omega)]; simp
  | j + 1, l, i, h, hu => by
    by_cases h1 : 1 < l.length
    · rw [pathL_up i h1]
      intro x hx
      rcases List.mem_append.1 hx with hx | hx
      · exact sib_u hu i x hx
      · exact pathL_u j (up l) (i / 2) (by rw [up_len]; omega) (up_u hu) x hx
    · rw [pathL_one i h1]; simp

/-- Does the way end at the root? -/
def chkW (root way : Int) (i n : Nat) (path : List Int) : Bool :=
  if h : 1 < n then
    if i % 2 = 1 then !path.isEmpty && chkW root (pairN (gd path 0) way) (i / 2) ((n + 1) / 2) (path.drop 1)
    else if i + 1 < n then !path.isEmpty && chkW root (pairN way (gd path 0)) (i / 2) ((n + 1) / 2) (path.drop 1)
    else chkW root way (i / 2) ((n + 1) / 2) path
  else path.isEmpty && way == root
termination_by n
decreasing_by all_goals omega
theorem chkW_one (root way : Int) (i n : Nat) (path : List Int) (h : ¬ 1 < n) : chkW root way i n path = (path.isEmpty && way == root) := by rw [chkW, dif_neg h]
theorem chkW_odd (root way : Int) (i n : Nat) (p : Int) (ps : List Int) (h : 1 < n) (hi : i % 2 = 1) : chkW root way i n (p :: ps) = chkW root (pairN p way) (i / 2) ((n + 1) / 2) ps := by rw [chkW, dif_pos h, if_pos hi]; rfl
theorem chkW_odd0 (root way : Int) (i n : Nat) (h : 1 < n) (hi : i % 2 = 1) : chkW root way i n [] = false := by rw [chkW, dif_pos h, if_pos hi]; rfl
theorem chkW_even (root way : Int) (i n : Nat) (p : Int) (ps : List Int) (h : 1 < n) (hi : ¬ i % 2 = 1) (hj : i + 1 < n) : chkW root way i n (p :: ps) = chkW root (pairN way p) (i / 2) ((n + 1) / 2) ps := by rw [chkW, dif_pos h, if_neg hi, if_pos hj]; rfl
theorem chkW_even0 (root way : Int) (i n : Nat) (h : 1 < n) (hi : ¬ i % 2 = 1) (hj : i + 1 < n) : chkW root way i n [] = false := by rw [chkW, dif_pos h, if_neg hi, if_pos hj]; rfl
theorem chkW_up (root way : Int) (i n : Nat) (path : List Int) (h : 1 < n) (hi : ¬ i % 2 = 1) (hj : ¬ i + 1 < n) : chkW root way i n path = chkW root way (i / 2) ((n + 1) / 2) path := by rw [chkW, dif_pos h, if_neg hi, if_neg hj]
/-- A leaf is accepted with its path. -/
theorem chkW_path : ∀ (j : Nat) (l : List Int) (i : Nat), l.length ≤ j → i < l.length → chkW (rootL l) (gd l i) i l.length (pathL l i) = true
  | 0, l, i, h, hi => by omega
  | j + 1, l, i, h, hi => by
    by_cases h1 : 1 < l.length
    · have ih := chkW_path j (up l) (i / 2) (by rw [up_len]; omega) (by rw [up_len]; omega)
      rw [up_len] at ih
      rw [rootL_up h1, pathL_up i h1]
      unfold sib
      by_cases ho : i % 2 = 1
      · rw [if_pos ho, List.singleton_append, chkW_odd _ _ _ _ _ _ h1 ho]
        have e := up_at (l := l) (k := i / 2) (by omega)
        rw [show 2 * (i / 2) = i - 1 by omega, show i - 1 + 1 = i by omega] at e
        rw [← e]
        exact ih
      · by_cases hj : i + 1 < l.length
        · rw [if_neg ho, if_pos hj, List.singleton_append, chkW_even _ _ _ _ _ _ h1 ho hj]
          have e := up_at (l := l) (k := i / 2) (by omega)
          rw [show 2 * (i / 2) = i by omega] at e
          rw [← e]
          exact ih
        · rw [if_neg ho, if_neg hj, List.nil_append, chkW_up _ _ _ _ _ h1 ho hj]
          have e := up_last (l := l) (k := i / 2) (by omega)
          rw [show 2 * (i / 2) = i by omega] at e
          rw [← e]
          exact ih
    · rw [chkW_one _ _ _ _ _ h1, pathL_one i h1, rootL_one h1, show i = 0 by omega]
      simp
/-- How long a path is. -/
def cnt (i n : Nat) : Nat := if h : 1 < n then (if i % 2 = 1 ∨ i + 1 < n then 1 else 0) + cnt (i / 2) ((n + 1) / 2) else 0
termination_by n
decreasing_by omega
theorem cnt_one (i n : Nat) (h : ¬ 1 < n) : cnt i n = 0 := by rw [cnt, dif_neg h]
theorem cnt_up (i n : Nat) (h : 1 < n) : cnt i n = (if i % 2 = 1 ∨ i + 1 < n then 1 else 0) + cnt (i / 2) ((n + 1) / 2) := by rw [cnt, dif_pos h]
theorem chkW_len : ∀ (j : Nat) (root way : Int) (i n : Nat) (path : List Int), n ≤ j → chkW root way i n path = true → path.length = cnt i n
  | 0, root, way, i, n, path, h, e => by
    rw [chkW_one _ _ _ _ _ (by omega)] at e
    rw [cnt_one i n (by omega)]
    simp at e
    simp [e.1]
  | j + 1, root, way, i, n, path, h, e => by
    by_cases h1 : 1 < n
    · rw [cnt_up i n h1]
      by_cases ho : i % 2 = 1
      · rw [if_pos (.inl ho)]
        cases path with
        | nil => rw [chkW_odd0 _ _ _ _ h1 ho] at e; cases e
        | cons p ps =>
          rw [chkW_odd _ _ _ _ _ _ h1 ho] at e
          have := chkW_len j _ _ _ _ _ (by omega) e
          simp; omega
      · by_cases hj : i + 1 < n
        · rw [if_pos (.inr hj)]
          cases path with
          | nil => rw [chkW_even0 _ _ _ _ h1 ho hj] at e; cases e
          | cons p ps =>
            rw [chkW_even _ _ _ _ _ _ h1 ho hj] at e
            have := chkW_len j _ _ _ _ _ (by omega) e
            simp; omega
        · rw [if_neg (by omega)]
          rw [chkW_up _ _ _ _ _ h1 ho hj] at e
          have := chkW_len j _ _ _ _ _ (by omega) e
          omega
    · rw [chkW_one _ _ _ _ _ h1] at e
      rw [cnt_one i n h1]
      simp at e
      simp [e.1]
theorem chkW_long {root way root' way' : Int} {i n : Nat} {p q : List Int} (e : chkW root way i n p = true) (hl : q.length ≠ p.length) : chkW root' way' i n q = false := by
  cases e2 : chkW root' way' i n q with
  | false => rfl
  | true =>
    have h1 := chkW_len n _ _ _ _ _ (Nat.le_refl _) e
    have h2 := chkW_len n _ _ _ _ _ (Nat.le_refl _) e2
    omega
end Go.Proofs.YtiapigoknlaihaaDoor
