/-
  Plain facts, no program: the text of an amount, and which texts are read, as lists of bytes.
-/
import Derived.Test.YtanncjkkaeeiaaaGreatDoorRatM
import Derived.Lib.Strings
namespace Go.Proofs.YtanncjkkaeeiaaaGreatDoor

/-- The value of a row of digits. -/
def dval (l : List UInt8) : Nat := l.foldl (fun n c => n * 10 + (c.toNat - 48)) 0
def isd (c : UInt8) : Bool := decide (48 ≤ c.toNat) && decide (c.toNat ≤ 57)
theorem isd_iff {c : UInt8} : isd c = true ↔ 48 ≤ c.toNat ∧ c.toNat ≤ 57 := by simp [isd]
def digl (l : List UInt8) : Bool := l.all isd
theorem digl_iff {l : List UInt8} : digl l = true ↔ ∀ c ∈ l, 48 ≤ c.toNat ∧ c.toNat ≤ 57 := by simp [digl, isd]
theorem digl_app {a b : List UInt8} : digl (a ++ b) = (digl a && digl b) := by simp [digl]
theorem dval_app2 (l : List UInt8) (x y : UInt8) : dval (l ++ [x, y]) = 100 * dval l + 10 * (x.toNat - 48) + (y.toNat - 48) := by
  simp only [dval, List.foldl_append, List.foldl_cons, List.foldl_nil]; omega
theorem dval_snoc (l : List UInt8) (x : UInt8) : dval (l ++ [x]) = 10 * dval l + (x.toNat - 48) := by
  simp only [dval, List.foldl_append, List.foldl_cons, List.foldl_nil]; omega
theorem fold_ge (l : List UInt8) : ∀ acc : Nat, acc ≤ l.foldl (fun n c => n * 10 + (c.toNat - 48)) acc := by
  induction l with
  | nil => intro acc; exact Nat.le_refl _
  | cons c l ih => intro acc; rw [List.foldl_cons]; exact Nat.le_trans (by omega) (ih _)

theorem parse_dig (l : List UInt8) (h : digl l = true) : ∀ acc : Nat, acc < 18446744073709551616 →
    Lib.parseUint10 acc l = if l.foldl (fun n c => n * 10 + (c.toNat - 48)) acc < 18446744073709551616 then .ok (l.foldl (fun n c => n * 10 + (c.toNat - 48)) acc) else .range := by
  induction l with
  | nil => intro acc ha; simp [Lib.parseUint10, ha]
  | cons c l ih =>
    intro acc ha
    have hc := digl_iff.1 h c (by simp)
    have hl : digl l = true := digl_iff.2 fun x hx => digl_iff.1 h x (by simp [hx])
    have hg := fold_ge l (acc * 10 + (c.toNat - 48))
    rw [List.foldl_cons, Lib.parseUint10, if_pos hc]
    by_cases h1 : 1844674407370955162 ≤ acc
    · rw [if_pos h1, if_neg (by omega)]
    · rw [if_neg h1]
      by_cases h2 : 18446744073709551616 ≤ acc * 10 + (c.toNat - 48)
      · rw [if_pos h2, if_neg (by omega)]
      · rw [if_neg h2]
        exact ih hl _ (by omega)

theorem atoi_dig (l : List UInt8) (h : digl l = true) (hne : l ≠ []) : Lib.atoiAll l = if dval l < 9223372036854775808 then .ok (dval l : Int) else .range := by
  have hp := parse_dig l h 0 (by omega)
  cases l with
  | nil => exact absurd rfl hne
  | cons c r =>
    have hc := digl_iff.1 h c (by simp)
    have n43 : ¬ (c.toNat = 43 ∨ c.toNat = 45) := by omega
    have n45 : ¬ c.toNat = 45 := by omega
    unfold Lib.atoiAll
    simp only [if_neg n43]
    unfold Lib.parseMag
    rw [if_neg (by simp), hp]
    rw [show (c :: r).foldl (fun n c => n * 10 + (c.toNat - 48)) 0 = dval (c :: r) from rfl]
    generalize dval (c :: r) = v
    by_cases h1 : v < 18446744073709551616
    · rw [if_pos h1]
      simp only [n45, not_false_eq_true, true_and, false_and, if_false]
      by_cases h2 : v < 9223372036854775808
      · rw [if_neg (by omega), if_pos h2]
      · rw [if_pos (by omega), if_neg h2]
    · rw [if_neg h1, if_neg (by omega)]

/-- A number in digits without superfluous zeros. -/
def numl (l : List UInt8) : Bool := (l == [48]) || (!(l == []) && (!(l.headD 0 == 48) && digl l))
theorem numl_iff {l : List UInt8} : numl l = true ↔ l = [48] ∨ (l ≠ [] ∧ l.headD 0 ≠ 48 ∧ digl l = true) := by simp [numl]
theorem numl_dig {l : List UInt8} (h : numl l = true) : digl l = true ∧ l ≠ [] := by
  rcases numl_iff.1 h with rfl | ⟨h1, h2, h3⟩
  · exact ⟨by decide, by simp⟩
  · exact ⟨h3, h1⟩

theorem digit_of {c : UInt8} (h : 48 ≤ c.toNat ∧ c.toNat ≤ 57) : UInt8.ofNat (48 + (c.toNat - 48)) = c := by
  rw [show 48 + (c.toNat - 48) = c.toNat by omega]; simp

theorem dval_pos {l : List UInt8} (h1 : l ≠ []) (h2 : l.headD 0 ≠ 48) (h3 : digl l = true) : 1 ≤ dval l := by
  cases l with
  | nil => exact absurd rfl h1
  | cons c r =>
    have hc := digl_iff.1 h3 c (by simp)
    have hne : c.toNat ≠ 48 := fun e => h2 (by simpa using (UInt8.toNat_inj.1 (show c.toNat = (48 : UInt8).toNat from e)))
    have := fold_ge r (0 * 10 + (c.toNat - 48))
    unfold dval
    rw [List.foldl_cons]
    omega

theorem dec_dval : ∀ (n : Nat) (l : List UInt8), l.length = n → l ≠ [] → l.headD 0 ≠ 48 → digl l = true → Lib.decDigits (dval l) = l
  | 0, l, hn, h1, _, _ => absurd (List.eq_nil_of_length_eq_zero hn) h1
  | n + 1, l, hn, h1, h2, h3 => by
    obtain ⟨r, c, rfl⟩ : ∃ r c, l = r ++ [c] := ⟨l.dropLast, l.getLast h1, (List.dropLast_concat_getLast h1).symm⟩
    have hc := digl_iff.1 h3 c (by simp)
    have hr : digl r = true := digl_iff.2 fun x hx => digl_iff.1 h3 x (by simp [hx])
    rw [dval_snoc]
    by_cases hr0 : r = []
    · subst hr0
      rw [show dval [] = 0 from rfl, Lib.decDigits, dif_pos (by omega)]
      simp only [Nat.mul_zero, Nat.zero_add, List.nil_append]
      rw [digit_of hc]
    · have hh : r.headD 0 ≠ 48 := by
        cases r with
        | nil => exact absurd rfl hr0
        | cons a b => simpa using h2
      have hp := dval_pos hr0 hh hr
      have hl : r.length = n := by simpa using hn
      rw [Lib.decDigits, dif_neg (by omega), show (10 * dval r + (c.toNat - 48)) / 10 = dval r by omega, show (10 * dval r + (c.toNat - 48)) % 10 = c.toNat - 48 by omega, dec_dval n r hl hr0 hh hr, digit_of hc]
theorem dec_num {l : List UInt8} (h : numl l = true) : Lib.decDigits (dval l) = l := by
  rcases numl_iff.1 h with rfl | ⟨h1, h2, h3⟩
  · decide +kernel
  · exact dec_dval _ l rfl h1 h2 h3

theorem dec_head (u : Nat) (h : 1 ≤ u) : (Lib.decDigits u).headD 0 ≠ 48 := by
  induction u using Nat.strongRecOn with
  | _ u ih =>
    rw [Lib.decDigits]
    split
    · rename_i h10
      simp only [List.headD_cons]
      intro e
      have := congrArg UInt8.toNat e
      rw [digit_toNat u h10] at this
      have h48 : (48 : UInt8).toNat = 48 := rfl
      omega
    · have := ih (u / 10) (by omega) (by omega)
      have hn := digits_ne (u / 10)
      cases hd : Lib.decDigits (u / 10) with
      | nil => exact absurd hd hn
      | cons a b => rw [hd] at this; simpa using this
theorem num_dec (u : Nat) : numl (Lib.decDigits u) = true := by
  by_cases h : u = 0
  · subst h; decide +kernel
  · exact numl_iff.2 (.inr ⟨digits_ne u, dec_head u (by omega), digl_iff.2 (digits_all u)⟩)
theorem dval_dec (u : Nat) : dval (Lib.decDigits u) = u := by
  induction u using Nat.strongRecOn with
  | _ u ih =>
    rw [Lib.decDigits]
    split
    · rename_i h10
      simp only [dval, List.foldl_cons, List.foldl_nil, digit_toNat u h10]; omega
    · rename_i h10
      rw [dval_snoc, ih (u / 10) (by omega), digit_toNat _ (Nat.mod_lt _ (by omega))]; omega

theorem index_x (x : UInt8) : ∀ (a b : List UInt8), x ∉ a → Lib.index (a ++ x :: b) [x] = a.length
  | [], b, _ => by simp [Lib.index]
  | c :: a, b, h => by
    have h1 : c ≠ x := fun e => h (by simp [e])
    have h2 := index_x x a b (fun e => h (by simp [e]))
    rw [List.cons_append]
    unfold Lib.index
    rw [if_neg (by simp [List.isPrefixOf, Ne.symm h1]), h2]
    have : (((a.length : Nat) : Int) == -1) = false := by rw [beq_eq_false_iff_ne]; omega
    simp [this]
theorem index_xno (x : UInt8) : ∀ (a : List UInt8), x ∉ a → Lib.index a [x] = -1
  | [], _ => by simp [Lib.index]
  | c :: a, h => by
    have h1 : c ≠ x := fun e => h (by simp [e])
    have h2 := index_xno x a (fun e => h (by simp [e]))
    unfold Lib.index
    rw [if_neg (by simp [List.isPrefixOf, Ne.symm h1]), h2]
    rfl
theorem cut_x (x : UInt8) (a b : List UInt8) (h : x ∉ a) : Lib.cut (a ++ x :: b) [x] = (a, b, true) := by
  unfold Lib.cut
  rw [index_x x a b h, if_pos (by omega)]
  simp
theorem cut_xno (x : UInt8) (a : List UInt8) (h : x ∉ a) : Lib.cut a [x] = (a, [], false) := by
  unfold Lib.cut
  rw [index_xno x a h, if_neg (by omega)]
theorem split_x (x : UInt8) : ∀ l : List UInt8, x ∈ l → ∃ a b, l = a ++ x :: b ∧ x ∉ a
  | [], h => by cases h
  | c :: l, h => by
    by_cases e : c = x
    · exact ⟨[], l, by simp [e], by simp⟩
    · have : x ∈ l := by rcases List.mem_cons.1 h with h | h; exact absurd h.symm e; exact h
      obtain ⟨a, b, h1, h2⟩ := split_x x l this
      exact ⟨c :: a, b, by simp [h1], by simp [h2, Ne.symm e]⟩
theorem cut_xlen (x : UInt8) (l : List UInt8) : (Lib.cut l [x]).1.length ≤ l.length ∧ (Lib.cut l [x]).2.1.length ≤ l.length := by
  unfold Lib.cut
  split
  · simp; omega
  · simp

/-- What stands behind a sign; before and behind the first point. -/
def tl (l : List UInt8) : List UInt8 := Lib.trimPrefix l [45]
def ng (l : List UInt8) : Bool := Lib.hasPrefix l [45]
def wh (l : List UInt8) : List UInt8 := (Lib.cut (tl l) [46]).1
def hu (l : List UInt8) : List UInt8 := (Lib.cut (tl l) [46]).2.1
def fm (l : List UInt8) : Bool := numl (wh l) && (decide ((hu l).length = 2) && (digl (hu l) && !(l == [45, 48, 46, 48, 48])))
theorem fm_iff {l : List UInt8} : fm l = true ↔ numl (wh l) = true ∧ (hu l).length = 2 ∧ digl (hu l) = true ∧ l ≠ [45, 48, 46, 48, 48] := by simp [fm]
theorem ng_cases (l : List UInt8) : (∃ r, l = 45 :: r ∧ ng l = true ∧ tl l = r) ∨ (l.headD 0 ≠ 45 ∧ ng l = false ∧ tl l = l) := by
  cases l with
  | nil => exact .inr ⟨by decide, rfl, rfl⟩
  | cons c r =>
    by_cases h : c = 45
    · subst h; exact .inl ⟨r, rfl, by simp [ng, Lib.hasPrefix, List.isPrefixOf], by simp [tl, Lib.trimPrefix, Lib.hasPrefix, List.isPrefixOf]⟩
    · have hp : Lib.hasPrefix (c :: r) [45] = false := by simp [Lib.hasPrefix, List.isPrefixOf, Ne.symm h]
      exact .inr ⟨by simpa using h, hp, by simp [tl, Lib.trimPrefix, hp]⟩
/-- Of the form: sign, whole number, point, two digits. -/
theorem fm_form {l : List UInt8} (h : fm l = true) : ∃ x y, tl l = wh l ++ 46 :: [x, y] ∧ hu l = [x, y] ∧ (48 ≤ x.toNat ∧ x.toNat ≤ 57) ∧ (48 ≤ y.toNat ∧ y.toNat ≤ 57) ∧ numl (wh l) = true := by
  obtain ⟨h1, h2, h3, h4⟩ := fm_iff.1 h
  by_cases hm : (46 : UInt8) ∈ tl l
  · obtain ⟨a, b, e, hn⟩ := split_x 46 _ hm
    have hc := cut_x 46 a b hn
    rw [← e] at hc
    have ea : wh l = a := by rw [wh, hc]
    have eb : hu l = b := by rw [hu, hc]
    rw [eb] at h2 h3
    obtain ⟨x, y, rfl⟩ : ∃ x y, b = [x, y] := by
      match b, h2 with
      | [x, y], _ => exact ⟨x, y, rfl⟩
    exact ⟨x, y, by rw [ea]; exact e, eb, digl_iff.1 h3 x (by simp), digl_iff.1 h3 y (by simp), h1⟩
  · have hc := cut_xno 46 _ hm
    have eb : hu l = [] := by rw [hu, hc]
    rw [eb] at h2
    cases h2
theorem no_pt {l : List UInt8} (h : digl l = true) : (46 : UInt8) ∉ l := fun hm => by have := digl_iff.1 h _ hm; revert this; decide
/-- The other way round. -/
theorem form_of {l q : List UInt8} {x y : UInt8} (hq : numl q = true) (hx : 48 ≤ x.toNat ∧ x.toNat ≤ 57) (hy : 48 ≤ y.toNat ∧ y.toNat ≤ 57) (ht : tl l = q ++ 46 :: [x, y]) : wh l = q ∧ hu l = [x, y] ∧ (fm l = true ↔ l ≠ [45, 48, 46, 48, 48]) := by
  have hc := cut_x 46 q [x, y] (no_pt (numl_dig hq).1)
  have e1 : wh l = q := by rw [wh, ht, hc]
  have e2 : hu l = [x, y] := by rw [hu, ht, hc]
  refine ⟨e1, e2, ?_⟩
  rw [fm_iff, e1, e2]
  refine ⟨fun h => h.2.2.2, fun h => ⟨hq, rfl, ?_, h⟩⟩
  rw [digl_iff]
  simp [hx, hy]
/-- The value of a text of the form. -/
def vl (l : List UInt8) : Nat := dval (wh l ++ hu l)
theorem atoi_vl {l : List UInt8} (h : fm l = true) : Lib.atoiAll (wh l ++ hu l) = if vl l < 9223372036854775808 then .ok (vl l : Int) else .range := by
  obtain ⟨h1, h2, h3, h4⟩ := fm_iff.1 h
  exact atoi_dig _ (by rw [digl_app, (numl_dig h1).1, h3]; rfl) (by simp [(numl_dig h1).2])
def sv (l : List UInt8) : Int := if ng l = true then -(vl l : Int) else vl l
/-- The text of an amount as a list. -/
def mtl (c : Int) : List UInt8 := (if c < 0 then [45] else []) ++ (Lib.decDigits (c.natAbs / 100) ++ 46 :: [UInt8.ofNat (48 + c.natAbs / 10 % 10), UInt8.ofNat (48 + c.natAbs % 10)])
theorem mtl_tl (c : Int) : tl (mtl c) = Lib.decDigits (c.natAbs / 100) ++ 46 :: [UInt8.ofNat (48 + c.natAbs / 10 % 10), UInt8.ofNat (48 + c.natAbs % 10)] ∧ ng (mtl c) = decide (c < 0) := by
  by_cases h : c < 0
  · have e : mtl c = 45 :: (Lib.decDigits (c.natAbs / 100) ++ 46 :: [UInt8.ofNat (48 + c.natAbs / 10 % 10), UInt8.ofNat (48 + c.natAbs % 10)]) := by simp [mtl, h]
    rw [e]
    simp [tl, ng, Lib.trimPrefix, Lib.hasPrefix, List.isPrefixOf, h]
  · have e : mtl c = Lib.decDigits (c.natAbs / 100) ++ 46 :: [UInt8.ofNat (48 + c.natAbs / 10 % 10), UInt8.ofNat (48 + c.natAbs % 10)] := by simp [mtl, h]
    rw [← e]
    have hh : (mtl c).headD 0 ≠ 45 := by
      rw [e]
      have hn := digits_ne (c.natAbs / 100)
      have ha := digits_all (c.natAbs / 100)
      cases hd : Lib.decDigits (c.natAbs / 100) with
      | nil => exact absurd hd hn
      | cons a b =>
        rw [hd] at ha
        have := ha a (by simp)
        intro e
        have e2 := congrArg UInt8.toNat (show a = 45 by simpa using e)
        have h45 : (45 : UInt8).toNat = 45 := rfl
        omega
    rcases ng_cases (mtl c) with ⟨r, e1, _, _⟩ | ⟨_, e2, e3⟩
    · rw [e1] at hh; exact absurd rfl hh
    · exact ⟨e3, by rw [e2]; simp [h]⟩
theorem text_form (c : Int) : fm (mtl c) = true ∧ sv (mtl c) = c := by
  obtain ⟨h1, h2⟩ := mtl_tl c
  have d1 := digit_toNat (c.natAbs / 10 % 10) (by omega)
  have d2 := digit_toNat (c.natAbs % 10) (by omega)
  obtain ⟨e1, e2, e3⟩ := form_of (num_dec (c.natAbs / 100)) (by omega) (by omega) h1
  have hv : vl (mtl c) = c.natAbs := by
    rw [vl, e1, e2, dval_app2, dval_dec, d1, d2]; omega
  refine ⟨e3.2 fun e => ?_, ?_⟩
  · have : vl (mtl c) = 0 ∧ ng (mtl c) = true := by rw [e]; exact ⟨by decide +kernel, by decide +kernel⟩
    rw [hv, h2] at this
    have h0 := of_decide_eq_true this.2
    omega
  · rw [sv, hv, h2]
    by_cases h : c < 0
    · simp only [h, decide_true, if_true]; omega
    · simp only [h, decide_false, Bool.false_eq_true, if_false]; omega
theorem form_text {l : List UInt8} (h : fm l = true) : mtl (sv l) = l := by
  obtain ⟨x, y, ht, hh, hx, hy, hn⟩ := fm_form h
  have hne := (fm_iff.1 h).2.2.2
  have hv : vl l = 100 * dval (wh l) + 10 * (x.toNat - 48) + (y.toNat - 48) := by rw [vl, hh, dval_app2]
  have hd := dec_num hn
  have ex := digit_of hx
  have ey := digit_of hy
  have key : ∀ n : Int, n.natAbs = vl l → Lib.decDigits (n.natAbs / 100) ++ 46 :: [UInt8.ofNat (48 + n.natAbs / 10 % 10), UInt8.ofNat (48 + n.natAbs % 10)] = tl l := by
    intro n hn
    rw [hn, hv, show (100 * dval (wh l) + 10 * (x.toNat - 48) + (y.toNat - 48)) / 100 = dval (wh l) by omega, show (100 * dval (wh l) + 10 * (x.toNat - 48) + (y.toNat - 48)) / 10 % 10 = x.toNat - 48 by omega, show (100 * dval (wh l) + 10 * (x.toNat - 48) + (y.toNat - 48)) % 10 = y.toNat - 48 by omega, hd, ex, ey, ht]
  have hs : (sv l).natAbs = vl l := by unfold sv; split <;> omega
  rw [mtl, key _ hs]
  rcases ng_cases l with ⟨r, e1, e2, e3⟩ | ⟨_, e2, e3⟩
  · have h0 : vl l ≠ 0 := by
      intro h0
      have w0 : dval (wh l) = 0 := by omega
      rw [w0] at hd
      have ew : wh l = [48] := hd.symm.trans (by decide +kernel)
      have x0 : x = 48 := UInt8.toNat_inj.1 (show x.toNat = (48 : UInt8).toNat by have h48 : (48 : UInt8).toNat = 48 := rfl; omega)
      have y0 : y = 48 := UInt8.toNat_inj.1 (show y.toNat = (48 : UInt8).toNat by have h48 : (48 : UInt8).toNat = 48 := rfl; omega)
      refine hne ?_
      rw [e1, ← e3, ht, ew, x0, y0]
      rfl
    rw [if_pos (by rw [sv, if_pos e2]; omega), e3]
    exact e1.symm
  · rw [if_neg (by rw [sv, if_neg (by simp [e2])]; omega), e3]
    rfl
end Go.Proofs.YtanncjkkaeeiaaaGreatDoor
