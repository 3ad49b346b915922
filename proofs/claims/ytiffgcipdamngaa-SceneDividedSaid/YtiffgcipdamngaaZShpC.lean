/-
  Plain facts for layer 8, no function of the program: bodies as lists of corners; turned, turned round, without a corner, moved; apart.
-/
import Derived.Test.YtiffgcipdamngaaZShpB
namespace Go.Proofs.Ytiffgcipdamngaa
set_option linter.unusedVariables false
set_option linter.unusedSimpArgs false

def px (L : List (Int × Int)) (i : Nat) : Int := (L.getD i (0, 0)).1
def py (L : List (Int × Int)) (i : Nat) : Int := (L.getD i (0, 0)).2
/-- A valid body. -/
structure Bok (L : List (Int × Int)) (lo hi : Int) : Prop where
  n3 : 3 ≤ L.length
  n8 : L.length ≤ 8
  rx : ∀ i, i < L.length → co (px L i)
  ry : ∀ i, i < L.length → co (py L i)
  zl : co lo
  zh : co hi
  lt : lo < hi
  first : ∀ i, 0 < i → i < L.length → px L 0 < px L i ∨ (px L 0 = px L i ∧ py L 0 < py L i)
  cvx : Cvx L.length (px L) (py L)




























/-! ### The conditions of a way -/
/-- The slope of an edge's turn along a way. -/
def slo (ax ay bx b_y dx dy : Int) : Int := (bx - ax) * dy - (b_y - ay) * dx
theorem slo_end (ax ay bx b_y fx fy tx ty : Int) : crs ax ay bx b_y fx fy + slo ax ay bx b_y (tx - fx) (ty - fy) = crs ax ay bx b_y tx ty := by unfold crs slo; grind


theorem slo_bd {ax ay bx b_y dx dy : Int} (h1 : co ax) (h2 : co ay) (h3 : co bx) (h4 : co b_y) (h5 : -4000 ≤ dx ∧ dx ≤ 4000) (h6 : -4000 ≤ dy ∧ dy ≤ 4000) : -32000000 ≤ slo ax ay bx b_y dx dy ∧ slo ax ay bx b_y dx dy ≤ 32000000 := by
  unfold co at h1 h2 h3 h4
  have k1 := mul_co (m := 4000) (k := 4000) (a := bx - ax) (b := dy) (by omega) h6
  have k2 := mul_co (m := 4000) (k := 4000) (a := b_y - ay) (b := dx) (by omega) h5
  unfold slo
  omega
theorem crs_le {ax ay bx b_y cx cy : Int} (h1 : co ax) (h2 : co ay) (h3 : co bx) (h4 : co b_y) (h5 : co cx) (h6 : co cy) : -32000000 ≤ crs ax ay bx b_y cx cy ∧ crs ax ay bx b_y cx cy ≤ 32000000 := by
  have := crs_bd h1 h2 h3 h4 h5 h6
  unfold crs
  omega
/-- All conditions of a way: those of the edges, in their order, then the bottom and the top. -/
def cnd (L : List (Int × Int)) (lo hi fx fy fz tx ty tz : Int) : List (Int × Int) :=
  ((List.range L.length).map fun i => (crs (px L i) (py L i) (px L (nx L.length i)) (py L (nx L.length i)) fx fy, slo (px L i) (py L i) (px L (nx L.length i)) (py L (nx L.length i)) (tx - fx) (ty - fy)))
    ++ [(fz - lo, tz - fz), (hi - fz, fz - tz)]
theorem cnd_bd {L : List (Int × Int)} {lo hi fx fy fz tx ty tz : Int} (b : Bok L lo hi) (f : V3 fx fy fz) (t : V3 tx ty tz) : ∀ c ∈ cnd L lo hi fx fy fz tx ty tz, (-32000000 ≤ c.1 ∧ c.1 ≤ 32000000) ∧ -32000000 ≤ c.2 ∧ c.2 ≤ 32000000 := by
  obtain ⟨f1, f2, f3⟩ := f
  obtain ⟨t1, t2, t3⟩ := t
  have zl := b.zl
  have zh := b.zh
  unfold co at f1 f2 f3 t1 t2 t3 zl zh
  intro c hc
  unfold cnd at hc
  rw [List.mem_append] at hc
  rcases hc with h | h
  · obtain ⟨i, hi, rfl⟩ := List.mem_map.1 h
    rw [List.mem_range] at hi
    exact ⟨crs_le (b.rx i hi) (b.ry i hi) (b.rx _ (nx_lt hi)) (b.ry _ (nx_lt hi)) f1 f2, slo_bd (b.rx i hi) (b.ry i hi) (b.rx _ (nx_lt hi)) (b.ry _ (nx_lt hi)) ⟨by omega, by omega⟩ ⟨by omega, by omega⟩⟩
  · simp only [List.mem_cons, List.not_mem_nil, or_false] at h
    rcases h with rfl | rfl
    · exact ⟨⟨by simp only; omega, by simp only; omega⟩, by simp only; omega, by simp only; omega⟩
    · exact ⟨⟨by simp only; omega, by simp only; omega⟩, by simp only; omega, by simp only; omega⟩




end Go.Proofs.Ytiffgcipdamngaa
