/-
  Plain facts, no program: lists of spans as sets of minutes; a list that is in order is told by its minutes; building a list piece by piece.
-/
import Derived.Sort.Row
namespace Go.Proofs.Ytgdgpfpihpofdaa

abbrev Spn := Int × Int
/-- A list has a minute. -/
def hasS (l : List Spn) (m : Int) : Bool := l.any fun s => decide (s.1 ≤ m) && decide (m < s.2)
/-- The spans are in order, apart, and behind p. -/
def chk : Int → List Spn → Bool
  | _, [] => true
  | p, s :: r => decide (p < s.1) && (decide (s.1 < s.2) && (decide (s.2 ≤ 600001) && chk s.2 r))
def vldS (l : List Spn) : Bool := decide (l.length ≤ 1000) && chk (-1) l
theorem vldS_iff {l : List Spn} : vldS l = true ↔ l.length ≤ 1000 ∧ chk (-1) l = true := by simp [vldS]

theorem has_nil (m : Int) : hasS [] m = false := rfl
theorem has_cons {s : Spn} {r : List Spn} {m : Int} : hasS (s :: r) m = true ↔ (s.1 ≤ m ∧ m < s.2) ∨ hasS r m = true := by simp [hasS]
theorem has_app (a b : List Spn) (m : Int) : hasS (a ++ b) m = (hasS a m || hasS b m) := by simp [hasS]
theorem has_one (s : Spn) (m : Int) : hasS [s] m = (decide (s.1 ≤ m) && decide (m < s.2)) := by simp [hasS]
theorem has_iff {l : List Spn} {m : Int} : hasS l m = true ↔ ∃ s ∈ l, s.1 ≤ m ∧ m < s.2 := by simp [hasS]
theorem chk_cons {p : Int} {s : Spn} {r : List Spn} : chk p (s :: r) = true ↔ p < s.1 ∧ s.1 < s.2 ∧ s.2 ≤ 600001 ∧ chk s.2 r = true := by simp [chk]
theorem has_gt : ∀ {l : List Spn} {p m : Int}, chk p l = true → hasS l m = true → p < m
  | [], _, _, _, h => by cases h
  | s :: r, p, m, hc, h => by
    obtain ⟨h1, h2, h3, h4⟩ := chk_cons.1 hc
    rcases has_cons.1 h with h | h
    · omega
    · have := has_gt h4 h; omega
theorem has_lt : ∀ {l : List Spn} {p m : Int}, chk p l = true → hasS l m = true → m < 600001
  | [], _, _, _, h => by cases h
  | s :: r, p, m, hc, h => by
    obtain ⟨h1, h2, h3, h4⟩ := chk_cons.1 hc
    rcases has_cons.1 h with h | h
    · omega
    · exact has_lt h4 h
theorem chk_mono : ∀ {l : List Spn} {p q : Int}, q ≤ p → chk p l = true → chk q l = true
  | [], _, _, _, _ => rfl
  | s :: r, p, q, h, hc => by
    obtain ⟨h1, h2, h3, h4⟩ := chk_cons.1 hc
    exact chk_cons.2 ⟨by omega, h2, h3, h4⟩
theorem chk_mem : ∀ {l : List Spn} {p : Int} {s : Spn}, chk p l = true → s ∈ l → p < s.1 ∧ s.1 < s.2 ∧ s.2 ≤ 600001
  | t :: r, p, s, hc, hm => by
    obtain ⟨h1, h2, h3, h4⟩ := chk_cons.1 hc
    rcases List.mem_cons.1 hm with rfl | hm
    · exact ⟨h1, h2, h3⟩
    · have := chk_mem h4 hm; omega
/-- A list in order has its own spans' first minutes, so it is told by its minutes. -/
theorem uniqS : ∀ {l l' : List Spn} {p p' : Int}, chk p l = true → chk p' l' = true → (∀ m, hasS l m = hasS l' m) → l = l'
  | [], [], _, _, _, _, _ => rfl
  | [], s :: r, _, _, _, hc, h => by
    obtain ⟨h1, h2, h3, h4⟩ := chk_cons.1 hc
    have := h s.1
    rw [has_cons.2 (.inl ⟨Int.le_refl _, h2⟩)] at this
    cases this
  | s :: r, [], _, _, hc, _, h => by
    obtain ⟨h1, h2, h3, h4⟩ := chk_cons.1 hc
    have := h s.1
    rw [has_cons.2 (.inl ⟨Int.le_refl _, h2⟩)] at this
    cases this
  | s :: r, s' :: r', p, p', hc, hc', h => by
    obtain ⟨h1, h2, h3, h4⟩ := chk_cons.1 hc
    obtain ⟨g1, g2, g3, g4⟩ := chk_cons.1 hc'
    have a1 : hasS (s' :: r') s.1 = true := by rw [← h]; exact has_cons.2 (.inl ⟨Int.le_refl _, h2⟩)
    have a2 : hasS (s :: r) s'.1 = true := by rw [h]; exact has_cons.2 (.inl ⟨Int.le_refl _, g2⟩)
    have e1 : s.1 = s'.1 := by
      rcases has_cons.1 a1 with b | b
      · rcases has_cons.1 a2 with c | c
        · omega
        · have := has_gt h4 c; omega
      · have := has_gt g4 b
        rcases has_cons.1 a2 with c | c
        · omega
        · have := has_gt h4 c; omega
    have e2 : s.2 = s'.2 := by
      rcases Int.lt_trichotomy s.2 s'.2 with lt | eq | gt
      · exfalso
        have b : hasS (s :: r) s.2 = true := by rw [h]; exact has_cons.2 (.inl ⟨by omega, lt⟩)
        rcases has_cons.1 b with c | c
        · omega
        · have := has_gt h4 c; omega
      · exact eq
      · exfalso
        have b : hasS (s' :: r') s'.2 = true := by rw [← h]; exact has_cons.2 (.inl ⟨by omega, gt⟩)
        rcases has_cons.1 b with c | c
        · omega
        · have := has_gt g4 c; omega
    have e : s = s' := Prod.ext e1 e2
    subst e
    have er : r = r' := uniqS h4 g4 fun m => by
      rw [Bool.eq_iff_iff]
      constructor
      · intro hm
        have := has_gt h4 hm
        have b : hasS (s :: r') m = true := by rw [← h]; exact has_cons.2 (.inr hm)
        rcases has_cons.1 b with c | c
        · omega
        · exact c
      · intro hm
        have := has_gt g4 hm
        have b : hasS (s :: r) m = true := by rw [h]; exact has_cons.2 (.inr hm)
        rcases has_cons.1 b with c | c
        · omega
        · exact c
    rw [er]

/-- Where a list ends. -/
def lastU : Int → List Spn → Int
  | p, [] => p
  | _, s :: r => lastU s.2 r
theorem lastU_snoc (p : Int) (l : List Spn) (s : Spn) : lastU p (l ++ [s]) = s.2 := by
  induction l generalizing p with
  | nil => rfl
  | cons t r ih => exact ih t.2
theorem chk_snoc {p : Int} {l : List Spn} {s : Spn} : chk p (l ++ [s]) = true ↔ chk p l = true ∧ lastU p l < s.1 ∧ s.1 < s.2 ∧ s.2 ≤ 600001 := by
  induction l generalizing p with
  | nil => simp [chk, lastU]
  | cons t r ih =>
    rw [List.cons_append, chk_cons, chk_cons, ih]
    simp only [lastU, and_assoc]
theorem lastU_le {p q : Int} {l : List Spn} (hc : chk p l = true) (hp : p ≤ q) (h : ∀ m, hasS l m = true → m < q) : lastU p l ≤ q := by
  induction l generalizing p with
  | nil => exact hp
  | cons s r ih =>
    obtain ⟨h1, h2, h3, h4⟩ := chk_cons.1 hc
    have := h (s.2 - 1) (has_cons.2 (.inl ⟨by omega, by omega⟩))
    exact ih h4 (by omega) fun m hm => h m (has_cons.2 (.inr hm))
theorem has_lastU {p m : Int} {l : List Spn} (hc : chk p l = true) (h : hasS l m = true) : m < lastU p l := by
  induction l generalizing p with
  | nil => cases h
  | cons s r ih =>
    obtain ⟨h1, h2, h3, h4⟩ := chk_cons.1 hc
    have key : ∀ (q : Int) (r : List Spn), chk q r = true → q ≤ lastU q r := by
      intro q r
      induction r generalizing q with
      | nil => intro _; exact Int.le_refl _
      | cons t r ih =>
        intro hc
        obtain ⟨h1, h2, h3, h4⟩ := chk_cons.1 hc
        have := ih t.2 h4
        show q ≤ lastU t.2 r
        omega
    rcases has_cons.1 h with b | b
    · have := key s.2 r h4
      show m < lastU s.2 r
      omega
    · exact ih h4 b

/-- A list that has been built as far as c, of the minutes that tk takes. -/
structure Bd (tk : Int → Bool) (out : List Spn) (c : Int) : Prop where
  ok : chk (-1) out = true
  at_ : 0 ≤ c
  mem : ∀ m, hasS out m = (decide (m < c) && tk m)
section
variable {tk : Int → Bool} {out o : List Spn} {c hi f : Int}
theorem Bd.start (h0 : 0 ≤ c) (h : ∀ m, m < c → tk m = false) : Bd tk [] c := ⟨rfl, h0, fun m => by
  rw [has_nil, Eq.comm, Bool.and_eq_false_iff]
  by_cases hm : m < c
  · exact .inr (h m hm)
  · exact .inl (by simpa using hm)⟩
theorem Bd.last (b : Bd tk out c) : lastU (-1) out ≤ c := lastU_le b.ok (by have := b.at_; omega) fun m hm => by
  rw [b.mem, Bool.and_eq_true] at hm
  exact of_decide_eq_true hm.1
theorem Bd.skip (b : Bd tk out c) (h : c ≤ hi) (ht : ∀ m, c ≤ m → m < hi → tk m = false) : Bd tk out hi := ⟨b.ok, by have := b.at_; omega, fun m => by
  rw [b.mem]
  by_cases h1 : m < c
  · rw [decide_eq_true h1, decide_eq_true (by omega)]
  · rw [decide_eq_false h1, Bool.false_and]
    by_cases h2 : m < hi
    · rw [ht m (by omega) h2, Bool.and_false]
    · rw [decide_eq_false h2, Bool.false_and]⟩
theorem Bd.push (b : Bd tk out c) (hn : lastU (-1) out ≠ c) (h : c < hi) (hh : hi ≤ 600001) (ht : ∀ m, c ≤ m → m < hi → tk m = true) : Bd tk (out ++ [(c, hi)]) hi := by
  have hl := b.last
  refine ⟨chk_snoc.2 ⟨b.ok, by show _ < c; omega, h, hh⟩, by have := b.at_; omega, fun m => ?_⟩
  rw [has_app, b.mem, has_one]
  by_cases h1 : m < c
  · rw [decide_eq_true h1, decide_eq_true (show m < hi by omega), decide_eq_false (show ¬ c ≤ m by omega)]; simp
  · rw [decide_eq_false h1, decide_eq_true (show c ≤ m by omega)]
    by_cases h2 : m < hi
    · rw [ht m (by omega) h2]; simp
    · simp [h2]
theorem Bd.grow (b : Bd tk (o ++ [(f, c)]) c) (h : c < hi) (hh : hi ≤ 600001) (ht : ∀ m, c ≤ m → m < hi → tk m = true) : Bd tk (o ++ [(f, hi)]) hi := by
  obtain ⟨h1, h2, h3, h4⟩ := chk_snoc.1 b.ok
  have h3' : f < c := h3
  refine ⟨chk_snoc.2 ⟨h1, h2, by show f < hi; omega, hh⟩, by have := b.at_; omega, fun m => ?_⟩
  have hb := b.mem m
  rw [has_app, has_one] at hb ⊢
  have h7 : c ≤ m → f ≤ m := fun _ => by omega
  by_cases h5 : m < c
  · rw [decide_eq_true h5] at hb
    rw [decide_eq_true (show m < hi by omega), ← hb]
  · have h8 : c ≤ m := by omega
    rw [decide_eq_false h5] at hb
    simp only [Bool.false_and, Bool.or_eq_false_iff] at hb
    rw [hb.1, Bool.false_or]
    by_cases h6 : m < hi
    · rw [ht m h8 h6, decide_eq_true h6, decide_eq_true (show (f, hi).1 ≤ m from h7 h8)]
    · rw [decide_eq_false h6]; simp
theorem Bd.done (b : Bd tk out c) (h : ∀ m, c ≤ m → tk m = false) : ∀ m, hasS out m = tk m := fun m => by
  rw [b.mem]
  by_cases hm : m < c
  · rw [decide_eq_true hm, Bool.true_and]
  · rw [decide_eq_false hm, h m (by omega)]; rfl
end

/-- The ends of the spans. -/
def endsS (l : List Spn) : List Int := l.flatMap fun s => [s.1, s.2]
theorem mem_ends {l : List Spn} {e : Int} : e ∈ endsS l ↔ ∃ s ∈ l, e = s.1 ∨ e = s.2 := by simp [endsS]
theorem ends_len (l : List Spn) : (endsS l).length = 2 * l.length := by
  unfold endsS
  induction l with
  | nil => rfl
  | cons s r ih => rw [List.flatMap_cons, List.length_append, ih]; simp; omega
/-- Between ends nothing changes. -/
theorem has_const {l : List Spn} {lo hi m : Int} (h : ∀ e ∈ endsS l, e ≤ lo ∨ hi ≤ e) (h1 : lo ≤ m) (h2 : m < hi) : hasS l m = hasS l lo := by
  rw [Bool.eq_iff_iff, has_iff, has_iff]
  constructor
  · rintro ⟨s, hs, a, b⟩
    have ea := h s.1 (mem_ends.2 ⟨s, hs, .inl rfl⟩)
    have eb := h s.2 (mem_ends.2 ⟨s, hs, .inr rfl⟩)
    exact ⟨s, hs, by omega, by omega⟩
  · rintro ⟨s, hs, a, b⟩
    have ea := h s.1 (mem_ends.2 ⟨s, hs, .inl rfl⟩)
    have eb := h s.2 (mem_ends.2 ⟨s, hs, .inr rfl⟩)
    exact ⟨s, hs, by omega, by omega⟩
theorem has_before {l : List Spn} {c m : Int} (h : ∀ e ∈ endsS l, c ≤ e) (hm : m < c) : hasS l m = false := by
  rw [← Bool.not_eq_true, has_iff]
  rintro ⟨s, hs, a, b⟩
  have := h s.1 (mem_ends.2 ⟨s, hs, .inl rfl⟩)
  omega
theorem has_behind {l : List Spn} {c m : Int} (h : ∀ e ∈ endsS l, e ≤ c) (hm : c ≤ m) : hasS l m = false := by
  rw [← Bool.not_eq_true, has_iff]
  rintro ⟨s, hs, a, b⟩
  have := h s.2 (mem_ends.2 ⟨s, hs, .inr rfl⟩)
  omega
theorem ends_bd {l : List Spn} (hc : chk (-1) l = true) {e : Int} (he : e ∈ endsS l) : 0 ≤ e ∧ e ≤ 600001 := by
  obtain ⟨s, hs, h⟩ := mem_ends.1 he
  have := chk_mem hc hs
  omega
theorem ends_sorted : ∀ {l : List Spn} {p : Int}, chk p l = true → (endsS l).Pairwise (· ≤ ·) ∧ ∀ e ∈ endsS l, p < e
  | [], _, _ => ⟨by simp [endsS], by simp [endsS]⟩
  | s :: r, p, hc => by
    obtain ⟨h1, h2, h3, h4⟩ := chk_cons.1 hc
    obtain ⟨i1, i2⟩ := ends_sorted h4
    have e : endsS (s :: r) = s.1 :: s.2 :: endsS r := by simp [endsS]
    rw [e]
    refine ⟨List.pairwise_cons.2 ⟨fun x hx => ?_, List.pairwise_cons.2 ⟨fun x hx => ?_, i1⟩⟩, fun x hx => ?_⟩
    · rcases List.mem_cons.1 hx with rfl | hx
      · omega
      · have := i2 x hx; omega
    · have := i2 x hx; omega
    · rcases List.mem_cons.1 hx with rfl | hx
      · omega
      · rcases List.mem_cons.1 hx with rfl | hx
        · omega
        · have := i2 x hx; omega
end Go.Proofs.Ytgdgpfpihpofdaa
