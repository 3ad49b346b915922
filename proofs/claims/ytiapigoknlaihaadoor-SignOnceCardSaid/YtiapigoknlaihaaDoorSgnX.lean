/-
  Plain facts of the laws: public keys, a quotient, two numbers; reads of few.
-/
import Derived.Test.YtiapigoknlaihaaDoorSgnH
import Derived.Test.YtiapigoknlaihaaDoorSgnW
namespace Go.Proofs.YtiapigoknlaihaaDoor
open Go.RowKit Go.Sort
open Go.RowKit (Below)
set_option linter.unusedVariables false
set_option linter.unusedSimpArgs false

/-- A public key. -/
structure PK (x p : Nat) : Prop where
  fV : pubV x = (p : Int)
  fE : pubE x = 0
  pw : pwr 4 x = p
  lp : p < 2147483579
  el : eltB (p : Int) = true
theorem pk {x : Nat} (x1 : 1 ≤ x) (x2 : x < 1073741789) : ∃ p, PK x p :=
  ⟨_, by unfold pubV; rw [if_pos (sec_ok x1 x2), Int.toNat_natCast], by unfold pubE; rw [if_pos (sec_ok x1 x2)], rfl, pwr_lt _ _, pwr_el x⟩
theorem pwr_inj {x y : Nat} (hx : x < 1073741789) (hy : y < 1073741789) (h : pwr 4 x = pwr 4 y) : x = y := keys_inj hx hy h
theorem pwr_mul (x y : Nat) : pwr 4 x * pwr 4 y % 2147483579 = pwr 4 ((x + y) % 1073741789) := keys_mul x y
theorem pk_eq {x y p q : Nat} (hx : x < 1073741789) (hy : y < 1073741789) (h : PK x p) (h2 : PK y q) : (((p : Int) == q) == ((x : Int) == y)) = true := by
  by_cases e : x = y
  · subst e
    have : p = q := h.pw.symm.trans h2.pw
    subst this
    simp
  · have hne : p ≠ q := fun e2 => e (pwr_inj hx hy (by rw [h.pw, h2.pw, e2]))
    have h1 : ((p : Int) == q) = false := by rw [beq_eq_false_iff_ne]; omega
    have h2 : ((x : Int) == y) = false := by rw [beq_eq_false_iff_ne]; omega
    rw [h1, h2]
    rfl
theorem far_al {w : World} {o : Obj} {g k : Nat} {v : Value} (hl : g < w.heap.size) (h : w.cell? ⟨g, k, none⟩ = some v) : (w.alloc o).cell? ⟨g, k, none⟩ = some v := keepc (below_new w o) h
theorem up_al {w : World} {o : Obj} {g : Nat} (hl : g < w.heap.size) : g < (w.alloc o).heap.size := by simp; omega
/-- The inverse modulo Q. -/
def invQ (d : Nat) : Nat := d ^ (qq - 2) % qq
theorem invQ_lt (d : Nat) : invQ d < 1073741789 := Nat.mod_lt _ (by decide)
theorem rpower_inv (d g : Nat) (hd : d < 1073741789) (hg : invQ d = g) (w : World) :
    Calls Tryd.prog 23 #[.int .i64 d, .int .i64 1073741787, .int .i64 1073741789] w fun e w' => e = .returned (.int .i64 g) ∧ w = w' := rpower_any d (qq - 2) qq g hd (by decide) (by decide) (by decide) hg w
/-- Two signatures with one number: what the quotient comes to. -/
structure ON (x e1 e2 s1 s2 d c g : Nat) : Prop where
  u1 : IntKind.i64.wrap ((e1 : Int) - e2) = e1 - e2
  u2 : IntKind.i64.wrap ((e1 : Int) - e2 + 1073741789) = e1 - e2 + 1073741789
  u3 : ((e1 : Int) - e2 + 1073741789).tmod 1073741789 = d
  v1 : IntKind.i64.wrap ((s1 : Int) - s2) = s1 - s2
  v2 : IntKind.i64.wrap ((s1 : Int) - s2 + 1073741789) = s1 - s2 + 1073741789
  v3 : ((s1 : Int) - s2 + 1073741789).tmod 1073741789 = c
  ld : d < 1073741789
  isG : invQ d = g
  w1 : IntKind.i64.wrap ((c : Int) * g) = (c : Int) * g
  w2 : ((c : Int) * g).tmod 1073741789 = x
theorem diff_mod {o x e1 e2 s1 s2 : Nat} (h1 : e1 < 1073741789) (h2 : e2 < 1073741789) (hs1 : (o + e1 * x) % 1073741789 = s1) (hs2 : (o + e2 * x) % 1073741789 = s2) :
    (s1 + 1073741789 - s2) % 1073741789 = ((e1 + 1073741789 - e2) % 1073741789) * x % 1073741789 := by
  have l1 : s1 < 1073741789 := by omega
  have l2 : s2 < 1073741789 := by omega
  -- e1 + Q = d + e2, times x
  have hd : (e1 + 1073741789 - e2) + e2 = e1 + 1073741789 := by omega
  have hx : (e1 + 1073741789 - e2) * x + e2 * x = e1 * x + 1073741789 * x := by rw [← Nat.add_mul, hd, Nat.add_mul]
  rw [Nat.mod_mul_mod]
  generalize (e1 + 1073741789 - e2) * x = A at *
  generalize e2 * x = B at *
  generalize e1 * x = C at *
  omega
theorem on {x o e1 e2 s1 s2 : Nat} (hx : x < 1073741789) (h1 : e1 < 1073741789) (h2 : e2 < 1073741789) (hs1 : (o + e1 * x) % 1073741789 = s1) (hs2 : (o + e2 * x) % 1073741789 = s2) (hne : e1 ≠ e2) : ∃ d c g, ON x e1 e2 s1 s2 d c g := by
  have l1 : s1 < 1073741789 := by omega
  have l2 : s2 < 1073741789 := by omega
  have hdm := diff_mod h1 h2 hs1 hs2
  obtain ⟨d, hd⟩ : ∃ d, (e1 + 1073741789 - e2) % 1073741789 = d := ⟨_, rfl⟩
  have d0 : 0 < d := by omega
  have d1 : d < 1073741789 := by omega
  have g1 := invQ_lt d
  have hq := quot_q (d := d) (s := x) d0 d1 hx
  obtain ⟨q1, q2⟩ := cast_bd (a := (s1 + 1073741789 - s2) % 1073741789) (b := invQ d) (m := 1073741789) (Nat.mod_lt _ (by decide)) g1 (by omega)
  refine ⟨d, _, _, ⟨IntWalk.i64_in _ ⟨by omega, by omega⟩, IntWalk.i64_in _ ⟨by omega, by omega⟩, ?_, IntWalk.i64_in _ ⟨by omega, by omega⟩, IntWalk.i64_in _ ⟨by omega, by omega⟩, ?_, d1, rfl, IntWalk.i64_in _ ⟨by omega, q2⟩, ?_⟩⟩
  · rw [Int.tmod_eq_emod_of_nonneg (by omega)]; omega
  · rw [Int.tmod_eq_emod_of_nonneg (by omega)]; omega
  · exact cast_mod (m := 1073741789) (by rw [hdm, hd]; exact hq)
theorem once_eq {x o y e s1 s2 : Nat} (ho : o < 1073741789) (hy : y < 1073741789) (h1 : (o + e * x) % 1073741789 = s1) (h2 : (y + e * x) % 1073741789 = s2) (h : s1 = s2) : o = y := by
  generalize e * x = A at *
  omega
end Go.Proofs.YtiapigoknlaihaaDoor
