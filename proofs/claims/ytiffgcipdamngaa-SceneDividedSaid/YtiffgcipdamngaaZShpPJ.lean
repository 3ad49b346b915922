/-
  Plain facts for layer 8: what package shape's clip narrows, against the ranges of the reference.
-/
import Derived.Test.YtiffgcipdamngaaZShpS
import Derived.Test.YtiffgcipdamngaaZShpC
namespace Go.Proofs.Ytiffgcipdamngaa
set_option linter.unusedVariables false
set_option linter.unusedSimpArgs false

theorem gq_cd (a b : Int) : gq a b = (cd a b : Int) := rfl
theorem abs_div {a : Int} {g : Nat} (h : (g : Int) ∣ a) : ((a.natAbs / g : Nat) : Int) = if 0 ≤ a then a / g else (-a) / g := by
  split
  · rename_i k
    rw [Int.natCast_ediv, Int.natAbs_of_nonneg k]
  · rename_i k
    rw [Int.natCast_ediv, Int.ofNat_natAbs_of_nonpos (by omega)]
theorem mk_ok {n d : Int} (hd : d ≠ 0) (hn : -100000000 ≤ n ∧ n ≤ 100000000) (hd2 : -100000000 ≤ d ∧ d ≤ 100000000) : mkE n d = 0 := by
  have h1 : n.natAbs / cd n d ≤ n.natAbs := Nat.div_le_self _ _
  have h2 : d.natAbs / cd n d ≤ d.natAbs := Nat.div_le_self _ _
  unfold mkE
  rw [if_neg hd, if_neg (by omega)]
/-- The quotient by a positive number, and by a negative one. -/
theorem mk_pos {n d : Int} (hd : 0 < d) (hn : -100000000 ≤ n ∧ n ≤ 100000000) (hd2 : d ≤ 100000000) : mkN n d = qN n d ∧ mkD n d = qD n d := by
  have h0 := mk_ok (n := n) (d := d) (by omega) hn ⟨by omega, hd2⟩
  unfold mkN mkD
  rw [if_pos h0, if_pos h0]
  have e1 : (cd n d : Int) ∣ n := by rw [← gq_cd]; exact gq_dvd1 n d
  have e2 : (cd n d : Int) ∣ d := by rw [← gq_cd]; exact gq_dvd2 n d
  unfold rn rd qN qD
  rw [gq_cd, abs_div e1, abs_div e2, if_pos (show 0 ≤ d by omega)]
  refine ⟨?_, rfl⟩
  by_cases h : 0 ≤ n
  · rw [if_pos (show (n < 0) ↔ (d < 0) by omega), if_pos h]
  · rw [if_neg (show ¬ ((n < 0) ↔ (d < 0)) by omega), if_neg h, Int.neg_ediv_of_dvd e1, Int.neg_neg]
theorem cd_neg (n d : Int) : cd n d = cd (-n) (-d) := by unfold cd; rw [Int.natAbs_neg, Int.natAbs_neg]
theorem mk_neg {n d : Int} (hd : d < 0) (hn : -100000000 ≤ n ∧ n ≤ 100000000) (hd2 : -100000000 ≤ d) : mkN n d = qN (-n) (-d) ∧ mkD n d = qD (-n) (-d) := by
  have h0 := mk_ok (n := n) (d := d) (by omega) hn ⟨hd2, by omega⟩
  unfold mkN mkD
  rw [if_pos h0, if_pos h0]
  have e1 : (cd n d : Int) ∣ n := by rw [← gq_cd]; exact gq_dvd1 n d
  have e2 : (cd n d : Int) ∣ d := by rw [← gq_cd]; exact gq_dvd2 n d
  unfold rn rd qN qD
  rw [gq_cd, ← cd_neg, abs_div e1, abs_div e2, if_neg (show ¬ 0 ≤ d by omega)]
  refine ⟨?_, rfl⟩
  by_cases h : 0 ≤ n
  · rw [if_neg (show ¬ ((n < 0) ↔ (d < 0)) by omega), if_pos h, Int.neg_ediv_of_dvd e1]
  · rw [if_pos (show (n < 0) ↔ (d < 0) by omega), if_neg h]
theorem q_vld {a b : Int} (hb : 0 < b) (ha : -100000000 ≤ a ∧ a ≤ 100000000) (hb2 : b ≤ 100000000) : vld (qN a b) (qD a b) = true := by
  obtain ⟨h1, h2, h3⟩ := q_bd (a := a) hb ha hb2
  refine (vld_iff _ _).2 ⟨by omega, by omega, by omega, by omega, ?_⟩
  have hg : 0 < cd a b := cd_pos (by omega)
  have e1 : (cd a b : Int) ∣ a := by rw [← gq_cd]; exact gq_dvd1 a b
  have e2 : (cd a b : Int) ∣ b := by rw [← gq_cd]; exact gq_dvd2 a b
  have n1 : (qN a b).natAbs = a.natAbs / cd a b := by unfold qN; rw [gq_cd, Int.natAbs_ediv_of_dvd e1]; rfl
  have n2 : (qD a b).natAbs = b.natAbs / cd a b := by unfold qD; rw [gq_cd, Int.natAbs_ediv_of_dvd e2]; rfl
  rw [n1, n2]
  unfold cd at hg ⊢
  rw [Nat.gcd_div (Nat.gcd_dvd_left _ _) (Nat.gcd_dvd_right _ _), Nat.div_self hg]

/-- What the closure makes of the part that is left, from the depths at a way's ends. -/
def pnar (a e : Int) (s : Rg) : Rg :=
  if a < e then (if s.ln * mkD a (a - e) < mkN a (a - e) * s.ld then { s with ln := mkN a (a - e), ld := mkD a (a - e) } else s)
  else if e < a then (if mkN a (a - e) * s.hd < s.hn * mkD a (a - e) then { s with hn := mkN a (a - e), hd := mkD a (a - e) } else s)
  else if a ≤ 0 then { s with hn := s.ln, hd := s.ld } else s
/-- Both numbers are valid. -/
def Vok (s : Rg) : Prop := vld s.ln s.ld = true ∧ vld s.hn s.hd = true
/-- The part that is left, against the reference's range. -/
def Rel (s r : Rg) : Prop := (r.e = false ∧ s.ln = r.ln ∧ s.ld = r.ld ∧ s.hn = r.hn ∧ s.hd = r.hd) ∨ (r.e = true ∧ s.hn * s.ld ≤ s.ln * s.hd)
theorem vld_pos {n d : Int} (h : vld n d = true) : 0 < d := by have := (vld_iff n d).1 h; omega
theorem pnar_up {a e : Int} (h : a < e) (ha : -50000000 ≤ a ∧ a ≤ 50000000) (he : -50000000 ≤ e ∧ e ≤ 50000000) : mkN a (a - e) = qN (-a) (e - a) ∧ mkD a (a - e) = qD (-a) (e - a) := by
  have := mk_neg (n := a) (d := a - e) (by omega) ⟨by omega, by omega⟩ (by omega)
  rwa [show -(a - e) = e - a by omega] at this
theorem pnar_dn {a e : Int} (h : e < a) (ha : -50000000 ≤ a ∧ a ≤ 50000000) (he : -50000000 ≤ e ∧ e ≤ 50000000) : mkN a (a - e) = qN a (-(e - a)) ∧ mkD a (a - e) = qD a (-(e - a)) := by
  have := mk_pos (n := a) (d := a - e) (by omega) ⟨by omega, by omega⟩ (by omega)
  rwa [show a - e = -(e - a) by omega] at this ⊢
theorem mk_vld {a e : Int} (h : a ≠ e) (ha : -50000000 ≤ a ∧ a ≤ 50000000) (he : -50000000 ≤ e ∧ e ≤ 50000000) : vld (mkN a (a - e)) (mkD a (a - e)) = true := by
  rcases Int.lt_or_gt_of_ne h with k | k
  · rw [(pnar_up k ha he).1, (pnar_up k ha he).2]
    exact q_vld (by omega) ⟨by omega, by omega⟩ (by omega)
  · rw [(pnar_dn k ha he).1, (pnar_dn k ha he).2]
    exact q_vld (by omega) ⟨by omega, by omega⟩ (by omega)
theorem pnar_vok {a e : Int} {s : Rg} (v : Vok s) (ha : -50000000 ≤ a ∧ a ≤ 50000000) (he : -50000000 ≤ e ∧ e ≤ 50000000) : Vok (pnar a e s) := by
  unfold pnar
  split
  · rename_i h
    split
    · exact ⟨mk_vld (by omega) ha he, v.2⟩
    · exact v
  · split
    · rename_i h
      split
      · exact ⟨v.1, mk_vld (by omega) ha he⟩
      · exact v
    · split
      · exact ⟨v.1, v.1⟩
      · exact v
theorem pnar_rel {a e : Int} {s r : Rg} (v : Vok s) (h : Rel s r) (ha : -50000000 ≤ a ∧ a ≤ 50000000) (he : -50000000 ≤ e ∧ e ≤ 50000000) : Rel (pnar a e s) (nrw r a (e - a)) := by
  have p1 := vld_pos v.1
  have p2 := vld_pos v.2
  rcases h with ⟨h0, h1, h2, h3, h4⟩ | ⟨h0, h1⟩
  · unfold pnar nrw
    by_cases c1 : a < e
    · rw [if_pos c1, if_neg (show ¬ e - a = 0 by omega), if_pos (show 0 < e - a by omega), (pnar_up c1 ha he).1, (pnar_up c1 ha he).2, h1, h2]
      split
      · exact Or.inl ⟨h0, rfl, rfl, h3, h4⟩
      · exact Or.inl ⟨h0, h1, h2, h3, h4⟩
    · rw [if_neg c1]
      by_cases c2 : e < a
      · rw [if_pos c2, if_neg (show ¬ e - a = 0 by omega), if_neg (show ¬ 0 < e - a by omega), (pnar_dn c2 ha he).1, (pnar_dn c2 ha he).2, h3, h4]
        split
        · exact Or.inl ⟨h0, h1, h2, rfl, rfl⟩
        · exact Or.inl ⟨h0, h1, h2, h3, h4⟩
      · rw [if_neg c2, if_pos (show e - a = 0 by omega)]
        by_cases c3 : a ≤ 0
        · rw [if_pos c3]
          exact Or.inr ⟨by simp [c3], Int.le_refl _⟩
        · rw [if_neg c3]
          exact Or.inl ⟨by simp [c3, h0], h1, h2, h3, h4⟩
  · have he' : (nrw r a (e - a)).e = true := by
      unfold nrw
      split
      · simp [h0]
      · split
        · split
          · exact h0
          · exact h0
        · split
          · exact h0
          · exact h0
    refine Or.inr ⟨he', ?_⟩
    unfold pnar
    split
    · rename_i c1
      have pd := vld_pos (mk_vld (show a ≠ e by omega) ha he)
      split
      · rename_i c
        exact Int.le_of_lt (fr_trans_le p2 p1 pd h1 c)
      · exact h1
    · split
      · rename_i c1 c2
        have pd := vld_pos (mk_vld (show a ≠ e by omega) ha he)
        split
        · rename_i c
          exact Int.le_of_lt (fr_le_trans pd p2 p1 c h1)
        · exact h1
      · split
        · exact Int.le_refl _
        · exact h1
theorem rel_hit {s r : Rg} (h : Rel s r) : decide (s.ln * s.hd < s.hn * s.ld) = hitB r := by
  unfold hitB
  rcases h with ⟨h0, h1, h2, h3, h4⟩ | ⟨h0, h1⟩
  · rw [h0, h1, h2, h3, h4]; rfl
  · rw [h0, decide_eq_false (by omega)]; rfl
theorem rel_eq {s r : Rg} (h : Rel s r) (hh : hitB r = true) : s.ln = r.ln ∧ s.ld = r.ld ∧ s.hn = r.hn ∧ s.hd = r.hd := by
  rcases h with ⟨h0, h1⟩ | ⟨h0, h1⟩
  · exact h1
  · unfold hitB at hh; rw [h0] at hh; cases hh

/-! ### The sides of a body, one by one -/
def dep (xs : List (Int × Int)) (lo hi : Int) (k : Nat) (a b c : Int) : Int :=
  if k < xs.length then crs (px xs k) (py xs k) (px xs (nx xs.length k)) (py xs (nx xs.length k)) a b else if k = xs.length then c - lo else hi - c
theorem dep_bd {xs : List (Int × Int)} {lo hi a b c : Int} (o : Bok xs lo hi) (v : V3 a b c) (k : Nat) : -32000000 ≤ dep xs lo hi k a b c ∧ dep xs lo hi k a b c ≤ 32000000 := by
  have zl := o.zl
  have zh := o.zh
  have v3 := v.z
  unfold co at zl zh v3
  unfold dep
  split
  · rename_i h
    exact crs_le (o.rx k h) (o.ry k h) (o.rx _ (nx_lt h)) (o.ry _ (nx_lt h)) v.x v.y
  · split <;> omega
theorem cnd_len (xs : List (Int × Int)) (lo hi fx fy fz tx ty tz : Int) : (cnd xs lo hi fx fy fz tx ty tz).length = xs.length + 2 := by unfold cnd; simp
theorem cnd_at {xs : List (Int × Int)} {lo hi fx fy fz tx ty tz : Int} {k : Nat} (hk : k < xs.length + 2) : (cnd xs lo hi fx fy fz tx ty tz)[k]? = some (dep xs lo hi k fx fy fz, dep xs lo hi k tx ty tz - dep xs lo hi k fx fy fz) := by
  unfold cnd dep
  by_cases h : k < xs.length
  · rw [List.getElem?_append_left (by simpa using h)]
    simp only [List.getElem?_map, List.getElem?_range h, Option.map_some, if_pos h]
    rw [← slo_end (px xs k) (py xs k) (px xs (nx xs.length k)) (py xs (nx xs.length k)) fx fy tx ty, show crs (px xs k) (py xs k) (px xs (nx xs.length k)) (py xs (nx xs.length k)) fx fy + slo (px xs k) (py xs k) (px xs (nx xs.length k)) (py xs (nx xs.length k)) (tx - fx) (ty - fy) - crs (px xs k) (py xs k) (px xs (nx xs.length k)) (py xs (nx xs.length k)) fx fy = slo (px xs k) (py xs k) (px xs (nx xs.length k)) (py xs (nx xs.length k)) (tx - fx) (ty - fy) by omega]
  · rw [List.getElem?_append_right (by simp; omega), List.length_map, List.length_range]
    simp only [if_neg h]
    by_cases e : k = xs.length
    · subst e
      simp only [Nat.sub_self, if_true]
      show some (fz - lo, tz - fz) = some (fz - lo, tz - lo - (fz - lo))
      rw [show tz - lo - (fz - lo) = tz - fz by omega]
    · rw [show k - xs.length = 1 by omega]
      simp only [if_neg e]
      show some (hi - fz, fz - tz) = some (hi - fz, hi - tz - (hi - fz))
      rw [show hi - tz - (hi - fz) = fz - tz by omega]
/-- The part that is left behind k sides. -/
def pst (xs : List (Int × Int)) (lo hi fx fy fz tx ty tz : Int) : Nat → Rg
  | 0 => r0
  | k + 1 => pnar (dep xs lo hi k fx fy fz) (dep xs lo hi k tx ty tz) (pst xs lo hi fx fy fz tx ty tz k)
theorem r0_vok : Vok r0 := by unfold Vok r0; decide
theorem pst_vok {xs : List (Int × Int)} {lo hi fx fy fz tx ty tz : Int} (o : Bok xs lo hi) (f : V3 fx fy fz) (t : V3 tx ty tz) : ∀ k, Vok (pst xs lo hi fx fy fz tx ty tz k)
  | 0 => r0_vok
  | k + 1 => by
    have h1 := dep_bd o f k
    have h2 := dep_bd o t k
    exact pnar_vok (pst_vok o f t k) ⟨by omega, by omega⟩ ⟨by omega, by omega⟩
theorem clp_take (r : Rg) (C : List (Int × Int)) {k : Nat} {c : Int × Int} (h : C[k]? = some c) : clp r (C.take (k + 1)) = nrw (clp r (C.take k)) c.1 c.2 := by
  obtain ⟨hk, e⟩ := List.getElem?_eq_some_iff.1 h
  unfold clp
  rw [List.take_succ_eq_append_getElem hk, List.foldl_append, e]
  rfl
theorem pst_rel {xs : List (Int × Int)} {lo hi fx fy fz tx ty tz : Int} (o : Bok xs lo hi) (f : V3 fx fy fz) (t : V3 tx ty tz) : ∀ k, k ≤ xs.length + 2 → Rel (pst xs lo hi fx fy fz tx ty tz k) (clp r0 ((cnd xs lo hi fx fy fz tx ty tz).take k))
  | 0, _ => Or.inl ⟨rfl, rfl, rfl, rfl, rfl⟩
  | k + 1, hk => by
    have h1 := dep_bd o f k
    have h2 := dep_bd o t k
    rw [clp_take r0 _ (cnd_at (lo := lo) (hi := hi) (fx := fx) (fy := fy) (fz := fz) (tx := tx) (ty := ty) (tz := tz) (by omega : k < xs.length + 2))]
    exact pnar_rel (pst_vok o f t k) (pst_rel o f t k (by omega)) ⟨by omega, by omega⟩ ⟨by omega, by omega⟩
theorem pst_end {xs : List (Int × Int)} {lo hi fx fy fz tx ty tz : Int} (o : Bok xs lo hi) (f : V3 fx fy fz) (t : V3 tx ty tz) : Rel (pst xs lo hi fx fy fz tx ty tz (xs.length + 2)) (clp r0 (cnd xs lo hi fx fy fz tx ty tz)) := by
  have h := pst_rel o f t (xs.length + 2) (Nat.le_refl _)
  rwa [List.take_of_length_le (by rw [cnd_len]; exact Nat.le_refl _)] at h
/-- What Clip answers. -/
structure Cln where
  a : Int
  b : Int
  c : Int
  d : Int
  h : Bool
def clres (r : Rg) : Cln := if hitB r = true then ⟨r.ln, r.ld, r.hn, r.hd, true⟩ else ⟨0, 1, 0, 1, false⟩
theorem clres_p {s r : Rg} (h : Rel s r) : clres r = if s.ln * s.hd < s.hn * s.ld then ⟨s.ln, s.ld, s.hn, s.hd, true⟩ else ⟨0, 1, 0, 1, false⟩ := by
  unfold clres
  have e := rel_hit h
  by_cases c : s.ln * s.hd < s.hn * s.ld
  · rw [decide_eq_true c] at e
    obtain ⟨h1, h2, h3, h4⟩ := rel_eq h e.symm
    rw [if_pos e.symm, if_pos c, h1, h2, h3, h4]
  · rw [decide_eq_false c] at e
    rw [if_neg c, if_neg (by rw [← e]; decide)]
end Go.Proofs.Ytiffgcipdamngaa
