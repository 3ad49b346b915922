/-
  Plain facts for layer 8, no function of the program: fractions, ranges that are narrowed, clips; the way back; points of a way.
-/
import Derived.Test.YtgjcmolocoijiaaZShpA
namespace Go.Proofs.Ytgjcmolocoijiaa
set_option linter.unusedVariables false
set_option linter.unusedSimpArgs false

/-! ### Quotients -/
def gq (a b : Int) : Int := (Nat.gcd a.natAbs b.natAbs : Nat)
def qN (a b : Int) : Int := a / gq a b
def qD (a b : Int) : Int := b / gq a b
theorem gq_pos {a b : Int} (h : 0 < b) : 0 < gq a b := by
  unfold gq
  have := Nat.gcd_pos_of_pos_right a.natAbs (n := b.natAbs) (by omega)
  omega
theorem gq_dvd1 (a b : Int) : gq a b ∣ a := by
  unfold gq
  exact Int.ofNat_dvd_left.2 (Nat.gcd_dvd_left _ _)
theorem gq_dvd2 (a b : Int) : gq a b ∣ b := by
  unfold gq
  exact Int.ofNat_dvd_left.2 (Nat.gcd_dvd_right _ _)
theorem qN_mul (a b : Int) : qN a b * gq a b = a := Int.ediv_mul_cancel (gq_dvd1 a b)
theorem qD_mul (a b : Int) : qD a b * gq a b = b := Int.ediv_mul_cancel (gq_dvd2 a b)
theorem pos_of_mul_right {x g : Int} (hg : 0 < g) (h : 0 < x * g) : 0 < x := by
  rcases Int.lt_or_le 0 x with k | k
  · exact k
  · have := Int.mul_nonpos_of_nonpos_of_nonneg k (Int.le_of_lt hg)
    omega
theorem qD_pos {a b : Int} (h : 0 < b) : 0 < qD a b := pos_of_mul_right (gq_pos (a := a) h) (by rw [qD_mul]; exact h)
/-- A quotient against a fraction: the numbers themselves serve. -/
theorem lt_q {a b n d : Int} (h : 0 < b) : qN a b * d < n * qD a b ↔ a * d < n * b := by
  have g := gq_pos (a := a) h
  have e1 : a * d = qN a b * d * gq a b := by
    have := qN_mul a b
    calc a * d = qN a b * gq a b * d := by rw [this]
      _ = qN a b * d * gq a b := by grind
  have e2 : n * b = n * qD a b * gq a b := by
    have := qD_mul a b
    calc n * b = n * (qD a b * gq a b) := by rw [this]
      _ = n * qD a b * gq a b := by grind
  rw [e1, e2]
  exact ⟨fun k => Int.mul_lt_mul_of_pos_right k g, fun k => Int.lt_of_mul_lt_mul_right k (Int.le_of_lt g)⟩
theorem q_lt {a b n d : Int} (h : 0 < b) : n * qD a b < qN a b * d ↔ n * b < a * d := by
  have g := gq_pos (a := a) h
  have e1 : a * d = qN a b * d * gq a b := by
    have := qN_mul a b
    calc a * d = qN a b * gq a b * d := by rw [this]
      _ = qN a b * d * gq a b := by grind
  have e2 : n * b = n * qD a b * gq a b := by
    have := qD_mul a b
    calc n * b = n * (qD a b * gq a b) := by rw [this]
      _ = n * qD a b * gq a b := by grind
  rw [e1, e2]
  exact ⟨fun k => Int.mul_lt_mul_of_pos_right k g, fun k => Int.lt_of_mul_lt_mul_right k (Int.le_of_lt g)⟩
theorem gq_add (a b : Int) : gq (a + b) b = gq a b := by
  unfold gq
  have h : Nat.gcd (a + b).natAbs b.natAbs = Nat.gcd a.natAbs b.natAbs := by
    have h1 : (a + b).gcd b = a.gcd b := by simp
    exact h1
  rw [h]
theorem gq_neg (a b : Int) : gq (-a) b = gq a b := by unfold gq; rw [Int.natAbs_neg]
theorem qD_add (a b : Int) : qD (a + b) b = qD a b := by unfold qD; rw [gq_add]
theorem qD_neg (a b : Int) : qD (-a) b = qD a b := by unfold qD; rw [gq_neg]
theorem qN_add {a b : Int} (h : 0 < b) : qN (a + b) b = qN a b + qD a b := by
  unfold qN qD
  rw [gq_add, Int.add_ediv_of_dvd_left (gq_dvd1 a b)]
theorem qN_neg {a b : Int} : qN (-a) b = -qN a b := by
  unfold qN
  rw [gq_neg, Int.neg_ediv_of_dvd (gq_dvd1 a b)]
theorem q_bd {a b m : Int} (h : 0 < b) (ha : -m ≤ a ∧ a ≤ m) (hb : b ≤ m) : (-m ≤ qN a b ∧ qN a b ≤ m) ∧ 0 < qD a b ∧ qD a b ≤ m := by
  have g := gq_pos (a := a) h
  have e1 := qN_mul a b
  have e2 := qD_mul a b
  have p := qD_pos (a := a) h
  have l2 : qD a b ≤ b := by
    have := Int.mul_le_mul_of_nonneg_left (a := 1) (b := gq a b) (by omega : (1 : Int) ≤ gq a b) (Int.le_of_lt p)
    omega
  have l1 : -m ≤ qN a b ∧ qN a b ≤ m := by
    rcases Int.le_total 0 (qN a b) with k | k
    · have := Int.mul_le_mul_of_nonneg_left (a := 1) (b := gq a b) (by omega : (1 : Int) ≤ gq a b) k
      omega
    · have h1 := Int.mul_nonpos_of_nonpos_of_nonneg k (by omega : 0 ≤ gq a b - 1)
      rw [Int.mul_sub, Int.mul_one] at h1
      omega
  exact ⟨l1, p, by omega⟩

/-! ### Fractions -/
theorem fr_trans {a b c d x y : Int} (hb : 0 < b) (hd : 0 < d) (hy : 0 < y) (h1 : a * d < c * b) (h2 : c * y < x * d) : a * y < x * b := by
  have k1 := Int.mul_lt_mul_of_pos_right h1 hy
  have k2 := Int.mul_lt_mul_of_pos_right h2 hb
  have e1 : a * d * y = d * (a * y) := by grind
  have e2 : c * b * y = c * y * b := by grind
  have e3 : x * d * b = d * (x * b) := by grind
  exact Int.lt_of_mul_lt_mul_left (by omega : d * (a * y) < d * (x * b)) (Int.le_of_lt hd)
theorem fr_trans_le {a b c d x y : Int} (hb : 0 < b) (hd : 0 < d) (hy : 0 < y) (h1 : a * d ≤ c * b) (h2 : c * y < x * d) : a * y < x * b := by
  have k1 := Int.mul_le_mul_of_nonneg_right h1 (Int.le_of_lt hy)
  have k2 := Int.mul_lt_mul_of_pos_right h2 hb
  have e1 : a * d * y = d * (a * y) := by grind
  have e2 : c * b * y = c * y * b := by grind
  have e3 : x * d * b = d * (x * b) := by grind
  exact Int.lt_of_mul_lt_mul_left (by omega : d * (a * y) < d * (x * b)) (Int.le_of_lt hd)
theorem fr_le_trans {a b c d x y : Int} (hb : 0 < b) (hd : 0 < d) (hy : 0 < y) (h1 : a * d < c * b) (h2 : c * y ≤ x * d) : a * y < x * b := by
  have k1 := Int.mul_lt_mul_of_pos_right h1 hy
  have k2 := Int.mul_le_mul_of_nonneg_right h2 (Int.le_of_lt hb)
  have e1 : a * d * y = d * (a * y) := by grind
  have e2 : c * b * y = c * y * b := by grind
  have e3 : x * d * b = d * (x * b) := by grind
  exact Int.lt_of_mul_lt_mul_left (by omega : d * (a * y) < d * (x * b)) (Int.le_of_lt hd)

/-! ### Ranges -/
structure Rg where
  ln : Int
  ld : Int
  hn : Int
  hd : Int
  e : Bool
/-- What is greater than 0 of a + b t. -/
def nrw (r : Rg) (a b : Int) : Rg :=
  if b = 0 then { r with e := r.e || decide (a ≤ 0) }
  else if 0 < b then (if r.ln * qD (-a) b < qN (-a) b * r.ld then { r with ln := qN (-a) b, ld := qD (-a) b } else r)
  else (if qN a (-b) * r.hd < r.hn * qD a (-b) then { r with hn := qN a (-b), hd := qD a (-b) } else r)
def mem (r : Rg) (n d : Int) : Prop := r.e = false ∧ r.ln * d < n * r.ld ∧ n * r.hd < r.hn * d
/-- The denominators are positive, and all numbers fit. -/
structure Rok (m : Int) (r : Rg) : Prop where
  l : -m ≤ r.ln ∧ r.ln ≤ m
  ld : 0 < r.ld ∧ r.ld ≤ m
  h : -m ≤ r.hn ∧ r.hn ≤ m
  hd : 0 < r.hd ∧ r.hd ≤ m
theorem nrw_ok {m a b : Int} {r : Rg} (k : Rok m r) (ha : -m ≤ a ∧ a ≤ m) (hb : -m ≤ b ∧ b ≤ m) : Rok m (nrw r a b) := by
  unfold nrw
  split
  · exact ⟨k.l, k.ld, k.h, k.hd⟩
  · split
    · rename_i h0 h1
      obtain ⟨p1, p2, p3⟩ := q_bd (a := -a) h1 ⟨by omega, by omega⟩ hb.2
      split
      · exact ⟨p1, ⟨p2, p3⟩, k.h, k.hd⟩
      · exact k
    · rename_i h0 h1
      obtain ⟨p1, p2, p3⟩ := q_bd (a := a) (b := -b) (m := m) (by omega) ha (by omega)
      split
      · exact ⟨k.l, k.ld, p1, ⟨p2, p3⟩⟩
      · exact k
theorem mem_nrw {m a b n d : Int} {r : Rg} (k : Rok m r) (hd : 0 < d) : mem (nrw r a b) n d ↔ mem r n d ∧ 0 < a * d + b * n := by
  unfold nrw
  split
  · rename_i h0
    subst h0
    have e : a * d + 0 * n = a * d := by grind
    rw [e]
    unfold mem
    simp only [Bool.or_eq_false_iff, decide_eq_false_iff_not]
    constructor
    · rintro ⟨⟨h1, h2⟩, h3, h4⟩
      exact ⟨⟨h1, h3, h4⟩, Int.mul_pos (by omega) hd⟩
    · rintro ⟨⟨h1, h3, h4⟩, h5⟩
      have := pos_of_mul_right hd h5
      exact ⟨⟨h1, by omega⟩, h3, h4⟩
  · rename_i h0
    split
    · rename_i h1
      have q := lt_q (a := -a) (n := n) (d := d) h1
      have p := qD_pos (a := -a) h1
      have e : -a * d < n * b ↔ 0 < a * d + b * n := by
        have e1 : -a * d = -(a * d) := Int.neg_mul _ _
        have e2 : n * b = b * n := Int.mul_comm _ _
        omega
      rw [e] at q
      split
      · rename_i h2
        unfold mem
        constructor
        · rintro ⟨m1, m2, m3⟩
          exact ⟨⟨m1, fr_trans k.ld.1 p hd h2 m2, m3⟩, q.1 m2⟩
        · rintro ⟨⟨m1, m2, m3⟩, m4⟩
          exact ⟨m1, q.2 m4, m3⟩
      · rename_i h2
        constructor
        · intro m1
          exact ⟨m1, q.1 (fr_trans_le p k.ld.1 hd (by omega) m1.2.1)⟩
        · exact fun m1 => m1.1
    · rename_i h1
      have hb : 0 < -b := by omega
      have q := q_lt (a := a) (n := n) (d := d) hb
      have p := qD_pos (a := a) hb
      have e : n * -b < a * d ↔ 0 < a * d + b * n := by
        have e1 : n * -b = -(n * b) := Int.mul_neg _ _
        have e2 : n * b = b * n := Int.mul_comm _ _
        omega
      rw [e] at q
      split
      · rename_i h2
        unfold mem
        constructor
        · rintro ⟨m1, m2, m3⟩
          exact ⟨⟨m1, m2, fr_trans hd p k.hd.1 m3 h2⟩, q.1 m3⟩
        · rintro ⟨⟨m1, m2, m3⟩, m4⟩
          exact ⟨m1, m2, q.2 m4⟩
      · rename_i h2
        constructor
        · intro m1
          exact ⟨m1, q.1 (fr_le_trans hd k.hd.1 p m1.2.2 (by omega))⟩
        · exact fun m1 => m1.1
/-- All conditions of a way, one behind the other. -/
def clp (r : Rg) (C : List (Int × Int)) : Rg := C.foldl (fun r c => nrw r c.1 c.2) r
def r0 : Rg := ⟨0, 1, 1, 1, false⟩
theorem clp_ok {m : Int} : ∀ {C : List (Int × Int)} {r : Rg}, Rok m r → (∀ c ∈ C, (-m ≤ c.1 ∧ c.1 ≤ m) ∧ -m ≤ c.2 ∧ c.2 ≤ m) → Rok m (clp r C)
  | [], r, k, _ => k
  | c :: C, r, k, h => clp_ok (C := C) (nrw_ok k (h c (by simp)).1 (h c (by simp)).2) (fun x hx => h x (by simp [hx]))
theorem mem_clp {m n d : Int} (hd : 0 < d) : ∀ {C : List (Int × Int)} {r : Rg}, Rok m r → (∀ c ∈ C, (-m ≤ c.1 ∧ c.1 ≤ m) ∧ -m ≤ c.2 ∧ c.2 ≤ m) → (mem (clp r C) n d ↔ mem r n d ∧ ∀ c ∈ C, 0 < c.1 * d + c.2 * n)
  | [], r, k, _ => by simp [clp]
  | c :: C, r, k, h => by
    have ih := mem_clp (m := m) (n := n) hd (C := C) (r := nrw r c.1 c.2) (nrw_ok k (h c (by simp)).1 (h c (by simp)).2) (fun x hx => h x (by simp [hx]))
    show mem (clp (nrw r c.1 c.2) C) n d ↔ _
    rw [ih, mem_nrw k hd]
    simp only [List.forall_mem_cons, and_assoc]


/-- Is anything of the way inside? -/
def hitB (r : Rg) : Bool := !r.e && decide (r.ln * r.hd < r.hn * r.ld)
/-- What is in the range at all shows that something is. -/
theorem hit_mem {m n d : Int} {r : Rg} (k : Rok m r) (hd : 0 < d) (h : mem r n d) : hitB r = true := by
  unfold hitB
  rw [h.1, Bool.not_false, Bool.true_and, decide_eq_true_eq]
  exact fr_trans k.ld.1 hd k.hd.1 h.2.1 h.2.2

/-! ### The way back -/
structure Rev (r s : Rg) : Prop where
  ln : s.ln = r.hd - r.hn
  ld : s.ld = r.hd
  hn : s.hn = r.ld - r.ln
  hd : s.hd = r.ld
  e : s.e = r.e
theorem rev_r0 : Rev r0 r0 := ⟨rfl, rfl, rfl, rfl, rfl⟩
theorem rev_nrw {r s : Rg} (h : Rev r s) (a b : Int) : Rev (nrw r a b) (nrw s (a + b) (-b)) := by
  obtain ⟨h1, h2, h3, h4, h5⟩ := h
  unfold nrw
  by_cases b0 : b = 0
  · subst b0
    rw [if_pos rfl, if_pos (by omega)]
    exact ⟨h1, h2, h3, h4, by show (s.e || decide (a + 0 ≤ 0)) = (r.e || decide (a ≤ 0)); rw [h5, Int.add_zero]⟩
  · rw [if_neg b0, if_neg (by omega : ¬ -b = 0)]
    by_cases bp : 0 < b
    · rw [if_pos bp, if_neg (by omega : ¬ 0 < -b)]
      have en : qN (a + b) (- -b) = qD (-a) b - qN (-a) b := by
        rw [Int.neg_neg, qN_add bp, qN_neg, qD_neg]; omega
      have ed : qD (a + b) (- -b) = qD (-a) b := by rw [Int.neg_neg, qD_add, qD_neg]
      rw [en, ed, h3, h4]
      have e : (qD (-a) b - qN (-a) b) * r.ld < (r.ld - r.ln) * qD (-a) b ↔ r.ln * qD (-a) b < qN (-a) b * r.ld := by
        have e1 : (qD (-a) b - qN (-a) b) * r.ld = qD (-a) b * r.ld - qN (-a) b * r.ld := Int.sub_mul _ _ _
        have e2 : (r.ld - r.ln) * qD (-a) b = r.ld * qD (-a) b - r.ln * qD (-a) b := Int.sub_mul _ _ _
        have e3 : qD (-a) b * r.ld = r.ld * qD (-a) b := Int.mul_comm _ _
        omega
      by_cases c : r.ln * qD (-a) b < qN (-a) b * r.ld
      · rw [if_pos c, if_pos (e.2 c)]
        exact ⟨h1, h2, rfl, rfl, h5⟩
      · rw [if_neg c, if_neg (fun k => c (e.1 k))]
        exact ⟨h1, h2, h3, h4, h5⟩
    · rw [if_neg bp, if_pos (by omega : 0 < -b)]
      have bn : 0 < -b := by omega
      have en : qN (-(a + b)) (-b) = qD a (-b) - qN a (-b) := by
        have : -(a + b) = -a + -b := by omega
        rw [this, qN_add bn, qN_neg, qD_neg]; omega
      have ed : qD (-(a + b)) (-b) = qD a (-b) := by
        have : -(a + b) = -a + -b := by omega
        rw [this, qD_add, qD_neg]
      rw [en, ed, h1, h2]
      have e : (r.hd - r.hn) * qD a (-b) < (qD a (-b) - qN a (-b)) * r.hd ↔ qN a (-b) * r.hd < r.hn * qD a (-b) := by
        have e1 : (r.hd - r.hn) * qD a (-b) = r.hd * qD a (-b) - r.hn * qD a (-b) := Int.sub_mul _ _ _
        have e2 : (qD a (-b) - qN a (-b)) * r.hd = qD a (-b) * r.hd - qN a (-b) * r.hd := Int.sub_mul _ _ _
        have e3 : r.hd * qD a (-b) = qD a (-b) * r.hd := Int.mul_comm _ _
        omega
      by_cases c : qN a (-b) * r.hd < r.hn * qD a (-b)
      · rw [if_pos c, if_pos (e.2 c)]
        exact ⟨rfl, rfl, h3, h4, h5⟩
      · rw [if_neg c, if_neg (fun k => c (e.1 k))]
        exact ⟨h1, h2, h3, h4, h5⟩
theorem rev_clp : ∀ (C : List (Int × Int)) {r s : Rg}, Rev r s → Rev (clp r C) (clp s (C.map fun c => (c.1 + c.2, -c.2)))
  | [], r, s, h => h
  | c :: C, r, s, h => rev_clp C (rev_nrw h c.1 c.2)
theorem rev_hit {r s : Rg} (h : Rev r s) : hitB s = hitB r := by
  obtain ⟨h1, h2, h3, h4, h5⟩ := h
  unfold hitB
  rw [h5, h1, h2, h3, h4]
  congr 1
  rw [decide_eq_decide]
  have e1 : (r.hd - r.hn) * r.ld = r.hd * r.ld - r.hn * r.ld := Int.sub_mul _ _ _
  have e2 : (r.ld - r.ln) * r.hd = r.ld * r.hd - r.ln * r.hd := Int.sub_mul _ _ _
  have e3 : r.hd * r.ld = r.ld * r.hd := Int.mul_comm _ _
  omega



end Go.Proofs.Ytgjcmolocoijiaa
