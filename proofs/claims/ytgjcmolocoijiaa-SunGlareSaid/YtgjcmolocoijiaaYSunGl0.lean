/-
  SunGlare: plain facts.
-/
import Derived.Test.YtgjcmolocoijiaaYSunZN
import Derived.Test.YtgjcmolocoijiaaYSgtZE
namespace Go.Proofs.Ytgjcmolocoijiaa
open Go.RowKit Go.Sort
open Go.RowKit (Below)
set_option linter.unusedVariables false
set_option linter.unusedSimpArgs false
attribute [local go_sem] Oper.semAt_some

theorem bds_app {L M : List Bv} (h : Bds L) (k : Bds M) : Bds (L ++ M) := fun i hi => by
  by_cases hl : i < L.length
  · rw [gdB_app_l hl]; exact h i hl
  · rw [List.length_append] at hi
    rw [gdB_app_r hl]; exact k _ (by omega)
theorem bsm_app {L M : List Bv} (h : Bsm L) (k : Bsm M) : Bsm (L ++ M) := fun i hi => by
  by_cases hl : i < L.length
  · rw [gdB_app_l hl]; exact h i hl
  · rw [List.length_append] at hi
    rw [gdB_app_r hl]; exact k _ (by omega)
theorem blk_app {ex ey ez x y z : Int} {L M : List Bv} : Blk ex ey ez x y z (L ++ M) ↔ Blk ex ey ez x y z L ∨ Blk ex ey ez x y z M := by
  constructor
  · rintro ⟨i, hi, h⟩
    by_cases hl : i < L.length
    · rw [gdB_app_l hl] at h; exact Or.inl ⟨i, hl, h⟩
    · rw [List.length_append] at hi
      rw [gdB_app_r hl] at h
      exact Or.inr ⟨i - L.length, by omega, h⟩
  · rintro (⟨i, hi, h⟩ | ⟨i, hi, h⟩)
    · exact ⟨i, by rw [List.length_append]; omega, by rw [gdB_app_l hi]; exact h⟩
    · refine ⟨i + L.length, by rw [List.length_append]; omega, ?_⟩
      rw [gdB_app_r (by omega), Nat.add_sub_cancel]; exact h
section
variable {T : List Q4} {m ex ey ez tx ty tz rn rd sn sd : Int} {L : List Bv} {a b : Bool} {q : Bv}
theorem bds_q (h : Bok q.xs q.lo q.hi) : Bds [q] := one_of h
theorem shr_bd {N D : Int} (h : shr N D = true) : 0 ≤ N ∧ N ≤ 10000 ∧ 0 < D ∧ D ≤ 10000 := by
  obtain ⟨h1, h2, h3, h4⟩ := shr_iff.1 h
  have := vld_pos h1
  exact ⟨h2, by omega, by omega, h4⟩
/-- Both shares without an error: what holds. -/
structure Gl (T : List Q4) (m ex ey ez tx ty tz rn rd sn sd : Int) (L : List Bv) (a b o : Bool) (x y z : Int) : Prop where
  len : L.length ≤ 60
  ok : Ok2 T m ex ey ez tx ty tz rn rd L
  dir : Dir T m x y z
  one : GlrR T m ex ey ez tx ty tz 1 1 L o 0
  r1 : 0 ≤ rn ∧ rn ≤ 10000 ∧ 0 < rd ∧ rd ≤ 10000
  s1 : 0 ≤ sn ∧ sn ≤ 10000 ∧ 0 < sd ∧ sd ≤ 10000
theorem gl_more {x y z : Int} (hl : L.length < 60) (h : Ok2 T m ex ey ez tx ty tz rn rd L) (hq : Bok q.xs q.lo q.hi) : Ok2 T m ex ey ez tx ty tz rn rd (L ++ [q]) := ⟨h.1, h.2.1, h.2.2.1, h.2.2.2.1, bds_app h.2.2.2.2 (bds_q hq)⟩
/-- Night, or the eye is the target; or else day. -/
theorem gl_cases (h : GlrR T m ex ey ez tx ty tz rn rd L a 0) (k : GlrR T m ex ey ez tx ty tz sn sd L b 0) (hle : ¬ sn * rd < rn * sd) : ∃ x y z, 
    ((z ≤ 0 ∨ (tx = ex ∧ ty = ey ∧ tz = ez)) ∧ a = false ∧ b = false ∧ Gl T m ex ey ez tx ty tz rn rd sn sd L a b false x y z ∧
      ∀ q : Bv, L.length < 60 → Bok q.xs q.lo q.hi → GlrR T m ex ey ez tx ty tz rn rd (L ++ [q]) false 0) ∨
    ((0 < z ∧ ¬ (tx = ex ∧ ty = ey ∧ tz = ez)) ∧ ∃ o dk : Bool, Gl T m ex ey ez tx ty tz rn rd sn sd L a b o x y z ∧ ShdR T m ex ey ez L dk 0 ∧ (a && dk || b && !a) = false ∧
      o = (!dk && decide (x * (ty - ey) = y * (tx - ex) ∧ y * (tz - ez) = z * (ty - ey) ∧ z * (tx - ex) = x * (tz - ez)) && decide (0 < dt x y z (tx - ex) (ty - ey) (tz - ez))) ∧
      ∀ q : Bv, L.length < 60 → Bok q.xs q.lo q.hi → ∃ c, GlrR T m ex ey ez tx ty tz rn rd (L ++ [q]) c 0 ∧ (!c || a) = true) := by
  rcases h with ⟨_, _, h⟩ | ⟨_, _, _, h⟩ | ⟨h0, h1, x, y, z, hd, h⟩
  · cases h
  · cases h
  rcases k with ⟨_, _, k⟩ | ⟨_, _, _, k⟩ | ⟨k0, k1, x1, y1, z1, kd, k⟩
  · cases k
  · cases k
  obtain ⟨rfl, rfl, rfl⟩ := dir_fun hd kd
  have hr := shr_bd h1.2.2.2.1
  have hs := shr_bd k1.2.2.2.1
  have ok1 : Ok2 T m ex ey ez tx ty tz 1 1 L := ⟨h1.1, h1.2.1, h1.2.2.1, by decide, h1.2.2.2.2⟩
  refine ⟨x, y, z, ?_⟩
  rcases h with ⟨c, rfl, _⟩ | ⟨_, _, _, h⟩ | ⟨c, d, ha, _⟩
  · rcases k with ⟨_, rfl, _⟩ | ⟨_, _, _, k⟩ | ⟨c', _⟩
    · exact Or.inl ⟨c, rfl, rfl, ⟨h0, h1, hd, Or.inr (Or.inr ⟨h0, ok1, x, y, z, hd, Or.inl ⟨c, rfl, rfl⟩⟩), hr, hs⟩,
        fun q hl hq => Or.inr (Or.inr ⟨by rw [List.length_append]; exact hl, gl_more (x := x) (y := y) (z := z) hl h1 hq, x, y, z, hd, Or.inl ⟨c, rfl, rfl⟩⟩)⟩
    · cases k
    · exfalso
      rcases c with c | c
      · have := c'.1; omega
      · exact c'.2 c
  · cases h
  · rcases k with ⟨c', _⟩ | ⟨_, _, _, k⟩ | ⟨_, _, hb, _⟩
    · exfalso
      rcases c' with c' | c'
      · have := c.1; omega
      · exact c.2 c'
    · cases k
    classical
    have hdv := dir_v3 h1.1.1 hd
    refine Or.inr ⟨c, decide (nr (dt x y z (tx - ex) (ty - ey) (tz - ez)) (dt x y z x y z) (dt (tx - ex) (ty - ey) (tz - ez) (tx - ex) (ty - ey) (tz - ez)) 1 1 = true ∧ ¬ Blk ex ey ez x y z L), decide (Blk ex ey ez x y z L), ⟨h0, h1, hd, ?_, hr, hs⟩, ?_, ?_, ?_, ?_⟩
    · exact Or.inr (Or.inr ⟨h0, ok1, x, y, z, hd, Or.inr (Or.inr ⟨c, d, decide_eq_true_iff, rfl⟩)⟩)
    · exact Or.inr (Or.inr ⟨h0, ⟨h1.1, h1.2.1, h1.2.2.2.2⟩, x, y, z, hd, Or.inr (Or.inr ⟨c.1, d.1, decide_eq_true_iff, rfl⟩)⟩)
    · have h3 : a = true → decide (Blk ex ey ez x y z L) = false := fun e => decide_eq_false (ha.1 e).2
      have h4 : b = true → a = true := fun e => ha.2 ⟨nr_mono (dt_nn _ _ _) (dt_nn _ _ _) (by omega) (by omega) (by omega) (hb.1 e).1, (hb.1 e).2⟩
      cases a <;> cases b <;> simp_all
    · rw [nr_one]
      by_cases hB : Blk ex ey ez x y z L
      · rw [decide_eq_true hB]; simp [hB]
      · rw [decide_eq_false hB]; simp [hB]
    · intro q hl hq
      refine ⟨decide (nr (dt x y z (tx - ex) (ty - ey) (tz - ez)) (dt x y z x y z) (dt (tx - ex) (ty - ey) (tz - ez) (tx - ex) (ty - ey) (tz - ez)) rn rd = true ∧ ¬ Blk ex ey ez x y z (L ++ [q])), Or.inr (Or.inr ⟨by rw [List.length_append]; exact hl, gl_more (x := x) (y := y) (z := z) hl h1 hq, x, y, z, hd, Or.inr (Or.inr ⟨c, d, decide_eq_true_iff, rfl⟩)⟩), ?_⟩
      have h3 : decide (nr (dt x y z (tx - ex) (ty - ey) (tz - ez)) (dt x y z x y z) (dt (tx - ex) (ty - ey) (tz - ez) (tx - ex) (ty - ey) (tz - ez)) rn rd = true ∧ ¬ Blk ex ey ez x y z (L ++ [q])) = true → a = true := fun e => by
        have e := of_decide_eq_true e
        exact ha.2 ⟨e.1, fun k => e.2 (blk_app.2 (Or.inl k))⟩
      cases a
      · rw [Bool.or_false, Bool.not_eq_true']
        exact not_true fun e => by have := h3 e; cases this
      · exact Bool.or_true _
end
theorem sls_snoc {w : World} {A : Option Addr} {L : List Bv} {q : Bv} (h : BdS w A L) (k : SlS w q.A q.xs) : ∀ i, i < (L ++ [q]).length → SlS w (gdB (L ++ [q]) i).A (gdB (L ++ [q]) i).xs := by
  intro i hi
  by_cases hl : i < L.length
  · obtain ⟨_, _, _, _, _, _, hs⟩ := h i hl
    rw [gdB_app_l hl]; exact hs
  · have e : i = L.length := by simp at hi; omega
    subst e
    rw [gdB_app_r (by omega), Nat.sub_self]
    exact k
theorem w_prod {x v P : Int} (hx : -2000 ≤ x ∧ x ≤ 2000) (hv : -4000 ≤ v ∧ v ≤ 4000) (h : x * v = P) : wrap64 (x * v) = P ∧ IntKind.i64.wrap (x * v) = P ∧ -8000000 ≤ P ∧ P ≤ 8000000 := by
  have h1 : (x.natAbs * v.natAbs : Nat) ≤ 2000 * 4000 := Nat.mul_le_mul (by omega) (by omega)
  have h2 : (x * v).natAbs = x.natAbs * v.natAbs := Int.natAbs_mul x v
  have h3 : -8000000 ≤ x * v ∧ x * v ≤ 8000000 := by omega
  subst h
  exact ⟨IntWalk.wrap64_in _ ⟨by omega, by omega⟩, IntWalk.i64_in _ ⟨by omega, by omega⟩, h3⟩
theorem w_diff {a b v : Int} (ha : -2000 ≤ a ∧ a ≤ 2000) (hb : -2000 ≤ b ∧ b ≤ 2000) (h : a - b = v) : wrap64 (a - b) = v ∧ IntKind.i64.wrap (a - b) = v ∧ -4000 ≤ v ∧ v ≤ 4000 := by
  subst h
  exact ⟨IntWalk.wrap64_in _ ⟨by omega, by omega⟩, IntWalk.i64_in _ ⟨by omega, by omega⟩, by omega, by omega⟩
theorem w_sum {a b c : Int} (ha : -8000000 ≤ a ∧ a ≤ 8000000) (hb : -8000000 ≤ b ∧ b ≤ 8000000) (hc : -8000000 ≤ c ∧ c ≤ 8000000) : wrap64 (a + b) = a + b ∧ IntKind.i64.wrap (a + b) = a + b ∧ wrap64 (a + b + c) = a + b + c ∧ IntKind.i64.wrap (a + b + c) = a + b + c :=
  ⟨IntWalk.wrap64_in _ ⟨by omega, by omega⟩, IntWalk.i64_in _ ⟨by omega, by omega⟩, IntWalk.wrap64_in _ ⟨by omega, by omega⟩, IntWalk.i64_in _ ⟨by omega, by omega⟩⟩
theorem w_sq {a b c d M1 M2 : Int} (ha : 0 ≤ a ∧ a ≤ 10000) (hb : 0 < b ∧ b ≤ 10000) (hc : 0 ≤ c ∧ c ≤ 10000) (hd : 0 < d ∧ d ≤ 10000) (e1 : a * b = M1) (e2 : c * d = M2) : (wrap64 (a * b) = M1 ∧ IntKind.i64.wrap (a * b) = M1) ∧ wrap64 (c * d) = M2 ∧ IntKind.i64.wrap (c * d) = M2 := by
  have h : ∀ {x v : Int}, (0 ≤ x ∧ x ≤ 10000) → (0 < v ∧ v ≤ 10000) → 0 ≤ x * v ∧ x * v ≤ 100000000 := fun {x v} hx hv => by
    have h1 := Int.mul_nonneg hx.1 (Int.le_of_lt hv.1)
    have h2 : x * v ≤ 10000 * v := Int.mul_le_mul_of_nonneg_right hx.2 (Int.le_of_lt hv.1)
    omega
  obtain ⟨h1, h2⟩ := h ha hb
  obtain ⟨h3, h4⟩ := h hc hd
  subst e1 e2
  exact ⟨⟨IntWalk.wrap64_in _ ⟨by omega, by omega⟩, IntWalk.i64_in _ ⟨by omega, by omega⟩⟩, IntWalk.wrap64_in _ ⟨by omega, by omega⟩, IntWalk.i64_in _ ⟨by omega, by omega⟩⟩


end Go.Proofs.Ytgjcmolocoijiaa
