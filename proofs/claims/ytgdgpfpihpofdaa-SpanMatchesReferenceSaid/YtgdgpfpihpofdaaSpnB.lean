/-
  Plain facts, no program: every combination of two lists of spans is a list of spans; how many minutes it has; lists that are shifted.
-/
import Derived.Test.YtgdgpfpihpofdaaSpnA
namespace Go.Proofs.Ytgdgpfpihpofdaa
set_option linter.unusedVariables false

/-- Piece by piece along the ends. -/
theorem bld_ex (tk : Int → Bool) (X : List Int) (hk : ∀ m lo hi, lo ≤ m → m < hi → (∀ e ∈ X, e ≤ lo ∨ hi ≤ e) → tk m = tk lo) :
    ∀ (r : List Int) (c : Int) (out : List Spn), Bd tk out c → (c :: r).Pairwise (· ≤ ·) → (∀ e ∈ r, e ≤ 600001) → (∀ e ∈ X, e ≤ c ∨ e ∈ r) →
      ∃ v d, Bd tk v d ∧ (∀ e ∈ X, e ≤ d) ∧ v.length ≤ out.length + r.length
  | [], c, out, b, _, _, h => ⟨out, c, b, fun e he => (h e he).elim id (fun h => by cases h), Nat.le_refl _⟩
  | hi :: r, c, out, b, hs, hm, h => by
    obtain ⟨s1, s2⟩ := List.pairwise_cons.1 hs
    obtain ⟨s3, s4⟩ := List.pairwise_cons.1 s2
    have hch : c ≤ hi := s1 hi (by simp)
    have hX : ∀ e ∈ X, e ≤ c ∨ hi ≤ e := fun e he => by
      rcases h e he with h | h
      · exact .inl h
      · rcases List.mem_cons.1 h with rfl | h
        · exact .inr (Int.le_refl _)
        · exact .inr (s3 e h)
    have hX2 : ∀ e ∈ X, e ≤ hi ∨ e ∈ r := fun e he => by
      rcases h e he with h | h
      · exact .inl (by omega)
      · rcases List.mem_cons.1 h with rfl | h
        · exact .inl (Int.le_refl _)
        · exact .inr h
    have hmr : ∀ e ∈ r, e ≤ 600001 := fun e he => hm e (by simp [he])
    have hhi : hi ≤ 600001 := hm hi (by simp)
    have go : ∀ out', Bd tk out' hi → out'.length ≤ out.length + 1 → ∃ v d, Bd tk v d ∧ (∀ e ∈ X, e ≤ d) ∧ v.length ≤ out.length + (hi :: r).length := fun out' b' hl => by
      obtain ⟨v, d, h1, h2, h3⟩ := bld_ex tk X hk r hi out' b' s2 hmr hX2
      exact ⟨v, d, h1, h2, by simp; omega⟩
    by_cases hlt : c < hi
    · cases ht : tk c with
      | false => exact go out (b.skip hch fun m h1 h2 => by rw [hk m c hi h1 h2 hX]; exact ht) (by omega)
      | true =>
        have hall : ∀ m, c ≤ m → m < hi → tk m = true := fun m h1 h2 => by rw [hk m c hi h1 h2 hX]; exact ht
        by_cases hl : lastU (-1) out = c
        · rcases List.eq_nil_or_concat out with e | ⟨o, s, e⟩
          · subst e
            have h0 := b.at_
            simp [lastU] at hl
            omega
          · rw [List.concat_eq_append] at e
            subst e
            rw [lastU_snoc] at hl
            obtain ⟨f, u⟩ := s
            have hu : u = c := hl
            subst hu
            exact go _ (b.grow hlt hhi hall) (by simp)
        · exact go _ (b.push hl hlt hhi hall) (by simp)
    · exact go out (b.skip hch fun m h1 h2 => absurd h2 (by omega)) (by omega)

theorem cmb_ex (op : Bool → Bool → Bool) (h0 : op false false = false) (a b : List Spn) (ha : chk (-1) a = true) (hb : chk (-1) b = true) :
    ∃ v, chk (-1) v = true ∧ (∀ m, hasS v m = op (hasS a m) (hasS b m)) ∧ v.length ≤ 2 * (a.length + b.length) := by
  have hp := List.mergeSort_perm (endsS a ++ endsS b) (fun x y => decide (x ≤ y))
  have hs := List.pairwise_mergeSort (le := fun x y : Int => decide (x ≤ y)) (fun x y z h1 h2 => by simp at *; omega) (fun x y => by simp; omega) (endsS a ++ endsS b)
  have hlen := hp.length_eq
  rw [List.length_append, ends_len, ends_len] at hlen
  generalize (endsS a ++ endsS b).mergeSort (fun x y => decide (x ≤ y)) = X at *
  have hXa : ∀ e ∈ endsS a, e ∈ X := fun e he => hp.mem_iff.2 (List.mem_append.2 (.inl he))
  have hXb : ∀ e ∈ endsS b, e ∈ X := fun e he => hp.mem_iff.2 (List.mem_append.2 (.inr he))
  have hXm : ∀ e ∈ X, 0 ≤ e ∧ e ≤ 600001 := fun e he => by
    rcases List.mem_append.1 (hp.mem_iff.1 he) with h | h
    · exact ends_bd ha h
    · exact ends_bd hb h
  have hk : ∀ m lo hi, lo ≤ m → m < hi → (∀ e ∈ X, e ≤ lo ∨ hi ≤ e) → op (hasS a m) (hasS b m) = op (hasS a lo) (hasS b lo) := fun m lo hi h1 h2 h => by
    rw [has_const (fun e he => h e (hXa e he)) h1 h2, has_const (fun e he => h e (hXb e he)) h1 h2]
  cases X with
  | nil =>
    simp at hlen
    refine ⟨[], rfl, fun m => ?_, by simp⟩
    have e1 : a = [] := List.eq_nil_of_length_eq_zero (by omega)
    have e2 : b = [] := List.eq_nil_of_length_eq_zero (by omega)
    rw [e1, e2, has_nil, h0]
  | cons c r =>
    have hs' : (c :: r).Pairwise (· ≤ ·) := hs.imp (by simp)
    have hc : ∀ e ∈ c :: r, c ≤ e := fun e he => by
      rcases List.mem_cons.1 he with rfl | he
      · exact Int.le_refl _
      · exact (List.pairwise_cons.1 hs').1 e he
    have hst : Bd (fun m => op (hasS a m) (hasS b m)) [] c := Bd.start (hXm c (by simp)).1 fun m hm => by
      show op _ _ = _
      rw [has_before (fun e he => hc e (hXa e he)) hm, has_before (fun e he => hc e (hXb e he)) hm, h0]
    obtain ⟨v, d, h1, h2, h3⟩ := bld_ex _ (c :: r) hk r c [] hst hs' (fun e he => (hXm e (by simp [he])).2) (fun e he => by
      rcases List.mem_cons.1 he with rfl | he
      · exact .inl (Int.le_refl _)
      · exact .inr he)
    refine ⟨v, h1.ok, h1.done fun m hm => ?_, by simp at h3 hlen; omega⟩
    show op _ _ = _
    rw [has_behind (fun e he => h2 e (hXa e he)) hm, has_behind (fun e he => h2 e (hXb e he)) hm, h0]

/-- The list of a combination. -/
noncomputable def cmb (op : Bool → Bool → Bool) (a b : List Spn) : List Spn := by
  classical
  exact if h : op false false = false ∧ chk (-1) a = true ∧ chk (-1) b = true then Classical.choose (cmb_ex op h.1 a b h.2.1 h.2.2) else []
section
variable {op : Bool → Bool → Bool} {a b : List Spn}
theorem cmb_spec (h0 : op false false = false) (ha : chk (-1) a = true) (hb : chk (-1) b = true) : chk (-1) (cmb op a b) = true ∧ (∀ m, hasS (cmb op a b) m = op (hasS a m) (hasS b m)) ∧ (cmb op a b).length ≤ 2 * (a.length + b.length) := by
  unfold cmb
  rw [dif_pos ⟨h0, ha, hb⟩]
  exact Classical.choose_spec (cmb_ex op h0 a b ha hb)
theorem cmb_is {v : List Spn} {p : Int} (h0 : op false false = false) (ha : chk (-1) a = true) (hb : chk (-1) b = true) (hv : chk p v = true) (hm : ∀ m, hasS v m = op (hasS a m) (hasS b m)) : v = cmb op a b := by
  obtain ⟨c1, c2, _⟩ := cmb_spec h0 ha hb
  exact uniqS hv c1 fun m => by rw [hm, c2]
end
def opO (x y : Bool) : Bool := x || y
def opA (x y : Bool) : Bool := x && y
def opD (x y : Bool) : Bool := x && !y

/-! ### How many minutes -/
def cntS (l : List Spn) : Int := (l.map fun s => s.2 - s.1).sum
theorem cnt_cons (s : Spn) (r : List Spn) : cntS (s :: r) = (s.2 - s.1) + cntS r := by simp [cntS]
/-- The minutes below n that are taken. -/
def num (n : Nat) (p : Int → Bool) : Nat := (List.range n).countP fun k : Nat => p k
theorem num_succ (n : Nat) (p : Int → Bool) : num (n + 1) p = num n p + if p n = true then 1 else 0 := by
  unfold num
  rw [List.range_succ, List.countP_append, List.countP_singleton]
theorem num_or (n : Nat) (p q : Int → Bool) : num n p + num n q = num n (fun m => p m || q m) + num n (fun m => p m && q m) := by
  induction n with
  | zero => rfl
  | succ n ih =>
    rw [num_succ, num_succ, num_succ, num_succ]
    cases p n <;> cases q n <;> simp <;> omega
theorem num_split (n : Nat) (p q : Int → Bool) : num n p = num n (fun m => p m && !q m) + num n (fun m => p m && q m) := by
  induction n with
  | zero => rfl
  | succ n ih =>
    rw [num_succ, num_succ, num_succ]
    cases p n <;> cases q n <;> simp <;> omega
theorem num_le (n : Nat) {p q : Int → Bool} (h : ∀ m, p m = true → q m = true) : num n p ≤ num n q := by
  induction n with
  | zero => exact Nat.le_refl _
  | succ n ih =>
    rw [num_succ, num_succ]
    have := h n
    cases hp : p n with
    | false => simp; omega
    | true => rw [this hp]; simp; omega
theorem num_none (n : Nat) {p : Int → Bool} (h : ∀ m, 0 ≤ m → m < n → p m = false) : num n p = 0 := by
  induction n with
  | zero => rfl
  | succ n ih => rw [num_succ, ih fun m h1 h2 => h m h1 (by omega), h n (by omega) (by omega)]; rfl
theorem num_one (n : Nat) {f u : Int} (h0 : 0 ≤ f) (h : f ≤ u) (hn : u ≤ n) : (num n fun m => decide (f ≤ m) && decide (m < u) : Int) = u - f := by
  induction n generalizing u with
  | zero => simp [num]; omega
  | succ n ih =>
    rw [num_succ]
    by_cases hu : u ≤ n
    · have := ih h hu
      rw [if_neg (by simp; omega)]
      omega
    · by_cases hf : f ≤ n
      · have e : num n (fun m => decide (f ≤ m) && decide (m < u)) = num n (fun m => decide (f ≤ m) && decide (m < (n : Int))) := by
          unfold num
          refine List.countP_congr fun k hk => ?_
          have := List.mem_range.1 hk
          simp; omega
        rw [e, if_pos (by simp; omega)]
        have := ih (u := n) hf (Int.le_refl _)
        omega
      · rw [num_none n fun m h1 h2 => by simp; omega, if_neg (by simp; omega)]
        omega
theorem cnt_num {l : List Spn} (n : Nat) : ∀ {p : Int}, -1 ≤ p → chk p l = true → (∀ s ∈ l, s.2 ≤ n) → cntS l = num n (hasS l) := by
  induction l with
  | nil => intro p _ _ _; rw [num_none n fun m _ _ => has_nil m]; rfl
  | cons s r ih =>
    intro p hp hc hn
    obtain ⟨h1, h2, h3, h4⟩ := chk_cons.1 hc
    have e := num_or n (fun m => decide (s.1 ≤ m) && decide (m < s.2)) (hasS r)
    rw [show (fun m => (decide (s.1 ≤ m) && decide (m < s.2)) || hasS r m) = hasS (s :: r) from rfl, num_none n (p := fun m => (decide (s.1 ≤ m) && decide (m < s.2)) && hasS r m) fun m _ _ => by
      rw [← Bool.not_eq_true]
      simp only [Bool.and_eq_true, decide_eq_true_eq]
      rintro ⟨⟨a, b⟩, c⟩
      have := has_gt h4 c
      omega] at e
    have e1 := num_one n (f := s.1) (u := s.2) (by omega) (by omega) (hn s (by simp))
    rw [cnt_cons, ih (p := s.2) (by omega) h4 fun t ht => hn t (by simp [ht])]
    omega
theorem cnt_n {l : List Spn} {p : Int} (hp : -1 ≤ p) (hc : chk p l = true) : cntS l = num 600001 (hasS l) :=
  cnt_num 600001 hp hc fun s hs => (chk_mem hc hs).2.2
theorem num_congr (n : Nat) {p q : Int → Bool} (h : ∀ m, p m = q m) : num n p = num n q := by rw [show p = q from funext h]
/-- P3.3. -/
theorem cnt_union {a b : List Spn} (ha : chk (-1) a = true) (hb : chk (-1) b = true) : cntS (cmb opO a b) + cntS (cmb opA a b) = cntS a + cntS b := by
  obtain ⟨c1, c2, _⟩ := cmb_spec (op := opO) rfl ha hb
  obtain ⟨d1, d2, _⟩ := cmb_spec (op := opA) rfl ha hb
  rw [cnt_n (Int.le_refl _) ha, cnt_n (Int.le_refl _) hb, cnt_n (Int.le_refl _) c1, cnt_n (Int.le_refl _) d1, num_congr _ c2, num_congr _ d2]
  have := num_or 600001 (hasS a) (hasS b)
  show ((num 600001 fun m => hasS a m || hasS b m : Nat) : Int) + (num 600001 fun m => hasS a m && hasS b m : Nat) = _
  omega
theorem cnt_minus {a b : List Spn} (ha : chk (-1) a = true) (hb : chk (-1) b = true) : cntS (cmb opD a b) + cntS (cmb opA a b) = cntS a := by
  obtain ⟨c1, c2, _⟩ := cmb_spec (op := opD) rfl ha hb
  obtain ⟨d1, d2, _⟩ := cmb_spec (op := opA) rfl ha hb
  rw [cnt_n (Int.le_refl _) ha, cnt_n (Int.le_refl _) c1, cnt_n (Int.le_refl _) d1, num_congr _ c2, num_congr _ d2]
  have := num_split 600001 (hasS a) (hasS b)
  show ((num 600001 fun m => hasS a m && !hasS b m : Nat) : Int) + (num 600001 fun m => hasS a m && hasS b m : Nat) = _
  omega
theorem cnt_le {a b : List Spn} (ha : chk (-1) a = true) (hb : chk (-1) b = true) (h : ∀ m, hasS a m = true → hasS b m = true) : cntS a ≤ cntS b := by
  rw [cnt_n (Int.le_refl _) ha, cnt_n (Int.le_refl _) hb]
  have := num_le 600001 h
  omega

/-! ### Shifting -/
def shS (l : List Spn) (d : Int) : List Spn := l.map fun s => (s.1 + d, s.2 + d)
theorem sh_len (l : List Spn) (d : Int) : (shS l d).length = l.length := by simp [shS]
theorem sh_cons (s : Spn) (r : List Spn) (d : Int) : shS (s :: r) d = (s.1 + d, s.2 + d) :: shS r d := rfl
theorem sh_has (l : List Spn) (d m : Int) : hasS (shS l d) m = hasS l (m - d) := by
  rw [Bool.eq_iff_iff, has_iff, has_iff]
  constructor
  · rintro ⟨s, hs, a, b⟩
    obtain ⟨t, ht, rfl⟩ := List.mem_map.1 hs
    simp only at a b
    exact ⟨t, ht, by omega, by omega⟩
  · rintro ⟨t, ht, a, b⟩
    exact ⟨_, List.mem_map.2 ⟨t, ht, rfl⟩, by show t.1 + d ≤ m; omega, by show m < t.2 + d; omega⟩
theorem sh_back (l : List Spn) (d : Int) : shS (shS l d) (-d) = l := by
  unfold shS
  rw [List.map_map]
  conv => rhs; rw [← List.map_id l]
  congr 1
  funext s
  show (s.1 + d + -d, s.2 + d + -d) = s
  rw [Int.add_neg_cancel_right, Int.add_neg_cancel_right]
theorem sh_cnt (l : List Spn) (d : Int) : cntS (shS l d) = cntS l := by
  induction l with
  | nil => rfl
  | cons s r ih => rw [sh_cons, cnt_cons, cnt_cons, ih]; show s.2 + d - (s.1 + d) + _ = _; omega
theorem sh_chk : ∀ {l : List Spn} {p q d : Int}, chk p l = true → (∀ s ∈ l, s.2 + d ≤ 600001) → (∀ s r, l = s :: r → q < s.1 + d) → chk q (shS l d) = true
  | [], _, _, _, _, _, _ => rfl
  | s :: r, p, q, d, hc, h, hq => by
    obtain ⟨h1, h2, h3, h4⟩ := chk_cons.1 hc
    rw [sh_cons]
    refine chk_cons.2 ⟨hq s r rfl, by show s.1 + d < s.2 + d; omega, h s (by simp), ?_⟩
    refine sh_chk h4 (fun t ht => h t (by simp [ht])) fun t r' e => ?_
    subst e
    have := chk_cons.1 h4
    show s.2 + d < t.1 + d
    omega
/-- A list would leave the minutes. -/
def lv (l : List Spn) (d : Int) : Bool := !l.isEmpty && (decide ((l.headD (0, 0)).1 + d < 0) || decide (600001 < lastU 0 l + d))
theorem lv_cons {s : Spn} {r : List Spn} {d : Int} : lv (s :: r) d = true ↔ s.1 + d < 0 ∨ 600001 < lastU s.2 r + d := by
  have e : lv (s :: r) d = (decide (s.1 + d < 0) || decide (600001 < lastU s.2 r + d)) := rfl
  rw [e, Bool.or_eq_true, decide_eq_true_iff, decide_eq_true_iff]
theorem lastU_mem : ∀ {r : List Spn} {s : Spn} {p : Int}, chk p (s :: r) = true → hasS (s :: r) (lastU s.2 r - 1) = true
  | [], s, p, hc => by
    obtain ⟨h1, h2, h3, h4⟩ := chk_cons.1 hc
    exact has_cons.2 (.inl ⟨by show s.1 ≤ s.2 - 1; omega, by show s.2 - 1 < s.2; omega⟩)
  | t :: r, s, p, hc => by
    obtain ⟨h1, h2, h3, h4⟩ := chk_cons.1 hc
    exact has_cons.2 (.inr (lastU_mem h4))
/-- .. exactly if one of its minutes would be none. -/
theorem lv_iff {l : List Spn} {p d : Int} (hc : chk p l = true) : lv l d = true ↔ ∃ m, hasS l m = true ∧ (m + d < 0 ∨ 600000 < m + d) := by
  cases l with
  | nil => simp [lv, has_nil]
  | cons s r =>
    rw [lv_cons]
    obtain ⟨h1, h2, h3, h4⟩ := chk_cons.1 hc
    constructor
    · rintro (h | h)
      · exact ⟨s.1, has_cons.2 (.inl ⟨Int.le_refl _, h2⟩), .inl h⟩
      · exact ⟨lastU s.2 r - 1, lastU_mem hc, .inr (by omega)⟩
    · rintro ⟨m, hm, h⟩
      have a1 := has_lastU hc hm
      have a1' : m < lastU s.2 r := a1
      have a2 : s.1 ≤ m := by
        rcases has_cons.1 hm with b | b
        · exact b.1
        · have := has_gt h4 b; omega
      omega
theorem sh_ok {l : List Spn} {d : Int} (hc : chk (-1) l = true) (h : lv l d = false) : chk (-1) (shS l d) = true := by
  have key : ∀ m, hasS l m = true → 0 ≤ m + d ∧ m + d ≤ 600000 := fun m hm => by
    apply Classical.byContradiction
    intro hn
    have : lv l d = true := (lv_iff hc).2 ⟨m, hm, by omega⟩
    rw [h] at this
    cases this
  refine sh_chk hc (fun s hs => ?_) fun s r e => ?_
  · have h1 := chk_mem hc hs
    have := key (s.2 - 1) (has_iff.2 ⟨s, hs, by omega, by omega⟩)
    omega
  · subst e
    have h1 := chk_mem hc (s := s) (by simp)
    have := key s.1 (has_iff.2 ⟨s, by simp, by omega, by omega⟩)
    omega
theorem lv_union {a b : List Spn} {d : Int} (ha : chk (-1) a = true) (hb : chk (-1) b = true) : lv (cmb opO a b) d = (lv a d || lv b d) := by
  obtain ⟨c1, c2, _⟩ := cmb_spec (op := opO) rfl ha hb
  rw [Bool.eq_iff_iff, Bool.or_eq_true, lv_iff c1, lv_iff ha, lv_iff hb]
  constructor
  · rintro ⟨m, hm, h⟩
    rw [c2] at hm
    rcases Bool.or_eq_true_iff.1 hm with hm | hm
    · exact .inl ⟨m, hm, h⟩
    · exact .inr ⟨m, hm, h⟩
  · rintro (⟨m, hm, h⟩ | ⟨m, hm, h⟩)
    · exact ⟨m, by rw [c2]; simp [opO, hm], h⟩
    · exact ⟨m, by rw [c2]; simp [opO, hm], h⟩
/-- The union of lists that are shifted is their union, shifted. -/
theorem sh_union {a b : List Spn} {d : Int} (ha : chk (-1) a = true) (hb : chk (-1) b = true) (la : lv a d = false) (lb : lv b d = false) : cmb opO (shS a d) (shS b d) = shS (cmb opO a b) d := by
  obtain ⟨c1, c2, _⟩ := cmb_spec (op := opO) rfl ha hb
  have hs := sh_ok c1 (d := d) (by rw [lv_union ha hb, la, lb]; rfl)
  exact (cmb_is rfl (sh_ok ha la) (sh_ok hb lb) hs fun m => by rw [sh_has, sh_has, sh_has, c2]).symm

/-! ### The laws -/
section
variable {a b c : List Spn} (ha : chk (-1) a = true) (hb : chk (-1) b = true) (hc : chk (-1) c = true)
include ha hb
theorem or_comm' : cmb opO a b = cmb opO b a := by
  obtain ⟨c1, c2, _⟩ := cmb_spec (op := opO) rfl ha hb
  exact cmb_is rfl hb ha c1 fun m => by rw [c2]; exact Bool.or_comm _ _
theorem and_comm' : cmb opA a b = cmb opA b a := by
  obtain ⟨c1, c2, _⟩ := cmb_spec (op := opA) rfl ha hb
  exact cmb_is rfl hb ha c1 fun m => by rw [c2]; exact Bool.and_comm _ _
theorem absorb1 : cmb opA a (cmb opO a b) = a := by
  obtain ⟨c1, c2, _⟩ := cmb_spec (op := opO) rfl ha hb
  exact (cmb_is rfl ha c1 ha fun m => by rw [c2]; cases hasS a m <;> cases hasS b m <;> rfl).symm
theorem absorb2 : cmb opO a (cmb opA a b) = a := by
  obtain ⟨c1, c2, _⟩ := cmb_spec (op := opA) rfl ha hb
  exact (cmb_is rfl ha c1 ha fun m => by rw [c2]; cases hasS a m <;> cases hasS b m <;> rfl).symm
/-- What is in the one and not in the other is nothing, both ways, exactly if they are equal. -/
theorem minus_nil : ((cmb opD a b).length + (cmb opD b a).length = 0) ↔ a = b := by
  obtain ⟨c1, c2, _⟩ := cmb_spec (op := opD) rfl ha hb
  obtain ⟨d1, d2, _⟩ := cmb_spec (op := opD) rfl hb ha
  constructor
  · intro h
    have e1 : cmb opD a b = [] := List.eq_nil_of_length_eq_zero (by omega)
    have e2 : cmb opD b a = [] := List.eq_nil_of_length_eq_zero (by omega)
    refine uniqS ha hb fun m => ?_
    have f1 := c2 m
    have f2 := d2 m
    rw [e1, has_nil] at f1
    rw [e2, has_nil] at f2
    revert f1 f2
    cases hasS a m <;> cases hasS b m <;> simp [opD]
  · rintro rfl
    have e : cmb opD a a = [] := (cmb_is (v := []) (p := -1) rfl ha ha rfl fun m => by rw [has_nil]; cases hasS a m <;> rfl).symm
    rw [e]; rfl
include hc
theorem or_assoc' : cmb opO (cmb opO a b) c = cmb opO a (cmb opO b c) := by
  obtain ⟨c1, c2, _⟩ := cmb_spec (op := opO) rfl ha hb
  obtain ⟨d1, d2, _⟩ := cmb_spec (op := opO) rfl hb hc
  obtain ⟨e1, e2, _⟩ := cmb_spec (op := opO) rfl c1 hc
  exact cmb_is rfl ha d1 e1 fun m => by rw [e2, c2, d2]; exact Bool.or_assoc _ _ _
theorem and_assoc' : cmb opA (cmb opA a b) c = cmb opA a (cmb opA b c) := by
  obtain ⟨c1, c2, _⟩ := cmb_spec (op := opA) rfl ha hb
  obtain ⟨d1, d2, _⟩ := cmb_spec (op := opA) rfl hb hc
  obtain ⟨e1, e2, _⟩ := cmb_spec (op := opA) rfl c1 hc
  exact cmb_is rfl ha d1 e1 fun m => by rw [e2, c2, d2]; exact Bool.and_assoc _ _ _
theorem distrib' : cmb opA a (cmb opO b c) = cmb opO (cmb opA a b) (cmb opA a c) := by
  obtain ⟨c1, c2, _⟩ := cmb_spec (op := opO) rfl hb hc
  obtain ⟨d1, d2, _⟩ := cmb_spec (op := opA) rfl ha hb
  obtain ⟨e1, e2, _⟩ := cmb_spec (op := opA) rfl ha hc
  obtain ⟨f1, f2, _⟩ := cmb_spec (op := opA) rfl ha c1
  exact cmb_is rfl d1 e1 f1 fun m => by rw [f2, c2, d2, e2]; exact Bool.and_or_distrib_left _ _ _
end
end Go.Proofs.Ytgdgpfpihpofdaa
