/-
  Plain facts for layer 8, no function of the program: bodies as lists of corners; turned, turned round, without a corner, moved; apart.
-/
import Derived.Test.YtgjcmolocoijiaaZShpB
namespace Go.Proofs.Ytgjcmolocoijiaa
set_option linter.unusedVariables false
set_option linter.unusedSimpArgs false

def px (L : List (Int × Int)) (i : Nat) : Int := (L.getD i (0, 0)).1
def py (L : List (Int × Int)) (i : Nat) : Int := (L.getD i (0, 0)).2
/-- A valid body. -/
structure Bok (L : List (Int × Int)) (lo hi : Int) : Prop where
  n3 : 3 ≤ L.length
  n8 : L.length ≤ 8
  rx : ∀ i, i < L.length → co (px L i)
  ry : ∀ i, i < L.length → co (py L i)
  zl : co lo
  zh : co hi
  lt : lo < hi
  first : ∀ i, 0 < i → i < L.length → px L 0 < px L i ∨ (px L 0 = px L i ∧ py L 0 < py L i)
  cvx : Cvx L.length (px L) (py L)
/-- A point strictly inside a body. -/
def InB (L : List (Int × Int)) (lo hi u v z : Int) : Prop := Ins L.length (px L) (py L) u v ∧ lo < z ∧ z < hi










/-! ### Moved -/
def mv (L : List (Int × Int)) (x y : Int) : List (Int × Int) := L.map fun p => (p.1 + x, p.2 + y)
theorem mv_len (L : List (Int × Int)) (x y : Int) : (mv L x y).length = L.length := List.length_map _
theorem mv_px {L : List (Int × Int)} {x y : Int} {i : Nat} (h : i < L.length) : px (mv L x y) i = px L i + x := by
  unfold px mv
  rw [List.getD_eq_getElem?_getD, List.getD_eq_getElem?_getD, List.getElem?_map, List.getElem?_eq_getElem h]; rfl
theorem mv_py {L : List (Int × Int)} {x y : Int} {i : Nat} (h : i < L.length) : py (mv L x y) i = py L i + y := by
  unfold py mv
  rw [List.getD_eq_getElem?_getD, List.getD_eq_getElem?_getD, List.getElem?_map, List.getElem?_eq_getElem h]; rfl














/-! ### The conditions of a way -/
/-- The slope of an edge's turn along a way. -/
def slo (ax ay bx b_y dx dy : Int) : Int := (bx - ax) * dy - (b_y - ay) * dx
theorem slo_end (ax ay bx b_y fx fy tx ty : Int) : crs ax ay bx b_y fx fy + slo ax ay bx b_y (tx - fx) (ty - fy) = crs ax ay bx b_y tx ty := by unfold crs slo; grind
theorem slo_back (ax ay bx b_y fx fy tx ty : Int) : slo ax ay bx b_y (fx - tx) (fy - ty) = -slo ax ay bx b_y (tx - fx) (ty - fy) := by unfold slo; grind

theorem slo_bd {ax ay bx b_y dx dy : Int} (h1 : co ax) (h2 : co ay) (h3 : co bx) (h4 : co b_y) (h5 : -4000 ≤ dx ∧ dx ≤ 4000) (h6 : -4000 ≤ dy ∧ dy ≤ 4000) : -32000000 ≤ slo ax ay bx b_y dx dy ∧ slo ax ay bx b_y dx dy ≤ 32000000 := by
  unfold co at h1 h2 h3 h4
  have k1 := mul_co (m := 4000) (k := 4000) (a := bx - ax) (b := dy) (by omega) h6
  have k2 := mul_co (m := 4000) (k := 4000) (a := b_y - ay) (b := dx) (by omega) h5
  unfold slo
  omega
theorem crs_le {ax ay bx b_y cx cy : Int} (h1 : co ax) (h2 : co ay) (h3 : co bx) (h4 : co b_y) (h5 : co cx) (h6 : co cy) : -32000000 ≤ crs ax ay bx b_y cx cy ∧ crs ax ay bx b_y cx cy ≤ 32000000 := by
  have := crs_bd h1 h2 h3 h4 h5 h6
  unfold crs
  omega
/-- All conditions of a way: those of the edges, in their order, then the bottom and the top. -/
def cnd (L : List (Int × Int)) (lo hi fx fy fz tx ty tz : Int) : List (Int × Int) :=
  ((List.range L.length).map fun i => (crs (px L i) (py L i) (px L (nx L.length i)) (py L (nx L.length i)) fx fy, slo (px L i) (py L i) (px L (nx L.length i)) (py L (nx L.length i)) (tx - fx) (ty - fy)))
    ++ [(fz - lo, tz - fz), (hi - fz, fz - tz)]
theorem cnd_bd {L : List (Int × Int)} {lo hi fx fy fz tx ty tz : Int} (b : Bok L lo hi) (f : V3 fx fy fz) (t : V3 tx ty tz) : ∀ c ∈ cnd L lo hi fx fy fz tx ty tz, (-32000000 ≤ c.1 ∧ c.1 ≤ 32000000) ∧ -32000000 ≤ c.2 ∧ c.2 ≤ 32000000 := by
  obtain ⟨f1, f2, f3⟩ := f
  obtain ⟨t1, t2, t3⟩ := t
  have zl := b.zl
  have zh := b.zh
  unfold co at f1 f2 f3 t1 t2 t3 zl zh
  intro c hc
  unfold cnd at hc
  rw [List.mem_append] at hc
  rcases hc with h | h
  · obtain ⟨i, hi, rfl⟩ := List.mem_map.1 h
    rw [List.mem_range] at hi
    exact ⟨crs_le (b.rx i hi) (b.ry i hi) (b.rx _ (nx_lt hi)) (b.ry _ (nx_lt hi)) f1 f2, slo_bd (b.rx i hi) (b.ry i hi) (b.rx _ (nx_lt hi)) (b.ry _ (nx_lt hi)) ⟨by omega, by omega⟩ ⟨by omega, by omega⟩⟩
  · simp only [List.mem_cons, List.not_mem_nil, or_false] at h
    rcases h with rfl | rfl
    · exact ⟨⟨by simp only; omega, by simp only; omega⟩, by simp only; omega, by simp only; omega⟩
    · exact ⟨⟨by simp only; omega, by simp only; omega⟩, by simp only; omega, by simp only; omega⟩
theorem cnd_back (L : List (Int × Int)) (lo hi fx fy fz tx ty tz : Int) : cnd L lo hi tx ty tz fx fy fz = (cnd L lo hi fx fy fz tx ty tz).map fun c => (c.1 + c.2, -c.2) := by
  unfold cnd
  rw [List.map_append, List.map_map]
  congr 1
  · apply List.map_congr_left
    intro i hi
    show (_, _) = (_, _)
    rw [slo_end, slo_back]
  · show [(tz - lo, fz - tz), (hi - tz, tz - fz)] = [(fz - lo + (tz - fz), -(tz - fz)), (hi - fz + (fz - tz), -(fz - tz))]
    rw [show fz - lo + (tz - fz) = tz - lo by omega, show -(tz - fz) = fz - tz by omega, show hi - fz + (fz - tz) = hi - tz by omega, show -(fz - tz) = tz - fz by omega]
/-- Moved with the body, the conditions stay. -/
theorem cnd_mv (L : List (Int × Int)) (lo hi fx fy fz tx ty tz x y z : Int) : cnd (mv L x y) (lo + z) (hi + z) (fx + x) (fy + y) (fz + z) (tx + x) (ty + y) (tz + z) = cnd L lo hi fx fy fz tx ty tz := by
  unfold cnd
  rw [mv_len]
  congr 1
  · apply List.map_congr_left
    intro i hi
    rw [List.mem_range] at hi
    rw [mv_px hi, mv_px (nx_lt hi), mv_py hi, mv_py (nx_lt hi), crs_move, show tx + x - (fx + x) = tx - fx by omega, show ty + y - (fy + y) = ty - fy by omega]
    unfold slo
    congr 1
    grind
  · rw [show fz + z - (lo + z) = fz - lo by omega, show tz + z - (fz + z) = tz - fz by omega, show hi + z - (fz + z) = hi - fz by omega, show fz + z - (tz + z) = fz - tz by omega]


end Go.Proofs.Ytgjcmolocoijiaa
