/-
  Plain facts for layer 8, no function of the program: bodies as lists of corners; turned, turned round, without a corner, moved; apart.
-/
import Derived.Test.YtjjimbaogpmbmaaShpB
namespace Go.Proofs.Ytjjimbaogpmbmaa
set_option linter.unusedVariables false
set_option linter.unusedSimpArgs false

def px (L : List (Int × Int)) (i : Nat) : Int := (L.getD i (0, 0)).1
def py (L : List (Int × Int)) (i : Nat) : Int := (L.getD i (0, 0)).2
/-- A valid body. -/
structure Bok (L : List (Int × Int)) (lo hi : Int) : Prop where
  n3 : 3 ≤ L.length
  n8 : L.length ≤ 8
  rx : ∀ i, i < L.length → co (px L i)
  ry : ∀ i, i < L.length → co (py L i)
  zl : co lo
  zh : co hi
  lt : lo < hi
  first : ∀ i, 0 < i → i < L.length → px L 0 < px L i ∨ (px L 0 = px L i ∧ py L 0 < py L i)
  cvx : Cvx L.length (px L) (py L)
/-- A point strictly inside a body. -/
def InB (L : List (Int × Int)) (lo hi u v z : Int) : Prop := Ins L.length (px L) (py L) u v ∧ lo < z ∧ z < hi

/-! ### Without a corner -/
theorem getD_less (L : List (Int × Int)) {k : Nat} (hk : k < L.length) (i : Nat) : (L.take k ++ L.drop (k + 1)).getD i (0, 0) = L.getD (sx k i) (0, 0) := by
  have hl : (L.take k).length = k := by rw [List.length_take]; omega
  unfold sx
  rw [List.getD_eq_getElem?_getD, List.getD_eq_getElem?_getD]
  split
  · rename_i h
    rw [List.getElem?_append_left (by omega), List.getElem?_take]
    rw [if_pos h]
  · rename_i h
    rw [List.getElem?_append_right (by omega), List.getElem?_drop, hl]
    rw [show k + 1 + (i - k) = i + 1 by omega]
theorem px_less (L : List (Int × Int)) {k : Nat} (hk : k < L.length) : px (L.take k ++ L.drop (k + 1)) = sk k (px L) := by
  funext i; unfold px; rw [getD_less L hk, sk_sx]
theorem py_less (L : List (Int × Int)) {k : Nat} (hk : k < L.length) : py (L.take k ++ L.drop (k + 1)) = sk k (py L) := by
  funext i; unfold py; rw [getD_less L hk, sk_sx]
theorem len_less (L : List (Int × Int)) {k : Nat} (hk : k < L.length) : (L.take k ++ L.drop (k + 1)).length = L.length - 1 := by
  rw [List.length_append, List.length_take, List.length_drop]; omega
theorem less_ok {L : List (Int × Int)} {lo hi : Int} (b : Bok L lo hi) {k : Nat} (h0 : 0 < k) (hk : k < L.length) (h4 : 4 ≤ L.length) : Bok (L.take k ++ L.drop (k + 1)) lo hi := by
  have hl := len_less L hk
  have ex := px_less L hk
  have ey := py_less L hk
  have n8 := b.n8
  have z0 : sx k 0 = 0 := by unfold sx; split <;> omega
  refine ⟨by omega, by omega, ?_, ?_, b.zl, b.zh, b.lt, ?_, ?_⟩
  · intro i hi
    rw [ex, sk_sx]
    exact b.rx _ (sx_lt hk (by omega))
  · intro i hi
    rw [ey, sk_sx]
    exact b.ry _ (sx_lt hk (by omega))
  · intro i hi0 hi
    rw [ex, ey, sk_sx, sk_sx, sk_sx, sk_sx, z0]
    exact b.first _ (by unfold sx; split <;> omega) (sx_lt hk (by omega))
  · rw [hl, ex, ey]
    exact cvx_sk b.cvx hk
theorem less_short {L : List (Int × Int)} {lo hi : Int} {k : Nat} (hk : k < L.length) (h4 : ¬ 3 < L.length) : ¬ Bok (L.take k ++ L.drop (k + 1)) lo hi := by
  intro b
  have := b.n3
  rw [len_less L hk] at this
  omega
theorem less_in {L : List (Int × Int)} {lo hi u v z : Int} (b : Bok L lo hi) {k : Nat} (h0 : 0 < k) (hk : k < L.length) (h4 : 4 ≤ L.length) (h : InB (L.take k ++ L.drop (k + 1)) lo hi u v z) : InB L lo hi u v z := by
  refine ⟨ins_sk b.cvx h4 h0 hk ?_, h.2⟩
  have := h.1
  rwa [len_less L hk, px_less L hk, py_less L hk] at this

/-! ### Beginning with another corner, going round the other way -/
theorem turned_not {L : List (Int × Int)} {lo hi lo' hi' : Int} (b : Bok L lo hi) {k : Nat} (h0 : 0 < k) (hk : k < L.length) : ¬ Bok (L.drop k ++ L.take k) lo' hi' := by
  intro c
  have ld : (L.drop k).length = L.length - k := List.length_drop
  have g0 : (L.drop k ++ L.take k).getD 0 (0, 0) = L.getD k (0, 0) := by
    rw [List.getD_eq_getElem?_getD, List.getD_eq_getElem?_getD, List.getElem?_append_left (by omega), List.getElem?_drop, Nat.add_zero]
  have g1 : (L.drop k ++ L.take k).getD (L.length - k) (0, 0) = L.getD 0 (0, 0) := by
    rw [List.getD_eq_getElem?_getD, List.getD_eq_getElem?_getD, List.getElem?_append_right (by omega), ld, Nat.sub_self, List.getElem?_take, if_pos h0]
  have l := c.first (L.length - k) (by omega) (by rw [List.length_append, ld, List.length_take]; omega)
  have m := b.first k h0 hk
  unfold px py at l m
  rw [g0, g1] at l
  omega
theorem back_not {L : List (Int × Int)} {lo hi lo' hi' : Int} {B : List (Int × Int)} (b : Bok L lo hi) (hl : B.length = L.length) (h0 : B.getD 0 (0, 0) = L.getD 0 (0, 0)) (h1 : B.getD 1 (0, 0) = L.getD (L.length - 1) (0, 0)) (h2 : B.getD 2 (0, 0) = L.getD (L.length - 2) (0, 0)) : ¬ Bok B lo' hi' := by
  intro c
  have n3 := b.n3
  have t := cvx_lt c.cvx (i := 0) (j := 1) (k := 2) (by omega) (by omega) (by omega)
  unfold tr px py at t
  rw [h0, h1, h2, crs_bc] at t
  by_cases e : L.length = 3
  · have t2 := cvx_lt b.cvx (i := 0) (j := 1) (k := 2) (by omega) (by omega) (by omega)
    unfold tr px py at t2
    rw [show L.length - 1 = 2 by omega, show L.length - 2 = 1 by omega] at t
    omega
  · have t2 := cvx_lt b.cvx (i := 0) (j := L.length - 2) (k := L.length - 1) (by omega) (by omega) (by omega)
    unfold tr px py at t2
    omega

/-! ### Moved -/
def mv (L : List (Int × Int)) (x y : Int) : List (Int × Int) := L.map fun p => (p.1 + x, p.2 + y)
theorem mv_len (L : List (Int × Int)) (x y : Int) : (mv L x y).length = L.length := List.length_map _
theorem mv_px {L : List (Int × Int)} {x y : Int} {i : Nat} (h : i < L.length) : px (mv L x y) i = px L i + x := by
  unfold px mv
  rw [List.getD_eq_getElem?_getD, List.getD_eq_getElem?_getD, List.getElem?_map, List.getElem?_eq_getElem h]; rfl
theorem mv_py {L : List (Int × Int)} {x y : Int} {i : Nat} (h : i < L.length) : py (mv L x y) i = py L i + y := by
  unfold py mv
  rw [List.getD_eq_getElem?_getD, List.getD_eq_getElem?_getD, List.getElem?_map, List.getElem?_eq_getElem h]; rfl
theorem mv_mv (L : List (Int × Int)) (x y : Int) : mv (mv L x y) (-x) (-y) = L := by
  unfold mv
  rw [List.map_map]
  have : ((fun p : Int × Int => (p.1 + -x, p.2 + -y)) ∘ fun p : Int × Int => (p.1 + x, p.2 + y)) = id := by
    funext p
    show (p.1 + x + -x, p.2 + y + -y) = p
    rw [Int.add_neg_cancel_right, Int.add_neg_cancel_right]
  rw [this, List.map_id]
theorem mv_tr {L : List (Int × Int)} {x y : Int} {i j k : Nat} (hi : i < L.length) (hj : j < L.length) (hk : k < L.length) : tr (px (mv L x y)) (py (mv L x y)) i j k = tr (px L) (py L) i j k := by
  unfold tr
  rw [mv_px hi, mv_px hj, mv_px hk, mv_py hi, mv_py hj, mv_py hk, crs_move]
theorem mv_cvx {L : List (Int × Int)} {x y : Int} (h : Cvx L.length (px L) (py L)) : Cvx (mv L x y).length (px (mv L x y)) (py (mv L x y)) := by
  rw [mv_len]
  intro i j hi hj h1 h2
  rw [mv_tr hi (nx_lt hi) hj]
  exact h i j hi hj h1 h2
theorem mv_ins {L : List (Int × Int)} {x y u v : Int} : Ins (mv L x y).length (px (mv L x y)) (py (mv L x y)) (u + x) (v + y) ↔ Ins L.length (px L) (py L) u v := by
  rw [mv_len]
  unfold Ins
  constructor
  · intro h i hi
    have := h i hi
    rwa [mv_px hi, mv_px (nx_lt hi), mv_py hi, mv_py (nx_lt hi), crs_move] at this
  · intro h i hi
    rw [mv_px hi, mv_px (nx_lt hi), mv_py hi, mv_py (nx_lt hi), crs_move]
    exact h i hi
/-- A moved body is valid exactly if it is in range. -/
theorem mv_ok {L : List (Int × Int)} {lo hi x y z : Int} (b : Bok L lo hi) (hx : ∀ i, i < L.length → co (px L i + x)) (hy : ∀ i, i < L.length → co (py L i + y)) (hl : co (lo + z)) (hh : co (hi + z)) : Bok (mv L x y) (lo + z) (hi + z) := by
  have n3 := b.n3
  have n8 := b.n8
  have lt := b.lt
  refine ⟨by rw [mv_len]; exact n3, by rw [mv_len]; exact n8, ?_, ?_, hl, hh, by omega, ?_, mv_cvx b.cvx⟩
  · intro i hi
    rw [mv_len] at hi
    rw [mv_px hi]; exact hx i hi
  · intro i hi
    rw [mv_len] at hi
    rw [mv_py hi]; exact hy i hi
  · intro i h0 hi
    rw [mv_len] at hi
    rw [mv_px hi, mv_py hi, mv_px (by omega), mv_py (by omega)]
    have := b.first i h0 hi
    omega

/-! ### Apart -/
def Par (A B : List (Int × Int)) : Prop := ∃ i, i < A.length ∧ ∀ j, j < B.length → crs (px A i) (py A i) (px A (nx A.length i)) (py A (nx A.length i)) (px B j) (py B j) ≤ 0
def Apa (A : List (Int × Int)) (la ha : Int) (B : List (Int × Int)) (lb hb : Int) : Prop := ha ≤ lb ∨ hb ≤ la ∨ Par A B ∨ Par B A
theorem apa_comm {A B : List (Int × Int)} {la ha lb hb : Int} : Apa A la ha B lb hb ↔ Apa B lb hb A la ha := by
  unfold Apa
  constructor
  · rintro (h | h | h | h)
    · exact Or.inr (Or.inl h)
    · exact Or.inl h
    · exact Or.inr (Or.inr (Or.inr h))
    · exact Or.inr (Or.inr (Or.inl h))
  · rintro (h | h | h | h)
    · exact Or.inr (Or.inl h)
    · exact Or.inl h
    · exact Or.inr (Or.inr (Or.inr h))
    · exact Or.inr (Or.inr (Or.inl h))
theorem par_self {A : List (Int × Int)} {la ha : Int} (b : Bok A la ha) : ¬ Par A A := by
  rintro ⟨i, hi, h⟩
  have n3 := b.n3
  -- a corner that is neither
  have hn := nx_lt hi
  obtain ⟨j, hj, h1, h2⟩ : ∃ j, j < A.length ∧ j ≠ i ∧ j ≠ nx A.length i := by
    by_cases a : i ≠ 0 ∧ nx A.length i ≠ 0
    · exact ⟨0, by omega, fun e => a.1 e.symm, fun e => a.2 e.symm⟩
    · by_cases c : i ≠ 1 ∧ nx A.length i ≠ 1
      · exact ⟨1, by omega, fun e => c.1 e.symm, fun e => c.2 e.symm⟩
      · have e : (nx A.length i = 0 ∧ i + 1 = A.length) ∨ nx A.length i = i + 1 := by unfold nx; split <;> omega
        exact ⟨2, by omega, by omega, by omega⟩
  have := b.cvx i j hi hj h1 h2
  have := h j hj
  unfold tr at *
  omega
theorem apa_self {A : List (Int × Int)} {la ha : Int} (b : Bok A la ha) : ¬ Apa A la ha A la ha := by
  have := b.lt
  rintro (h | h | h | h)
  · omega
  · omega
  · exact par_self b h
  · exact par_self b h
theorem par_in {A B : List (Int × Int)} {la ha lb hb u v z : Int} (b : Bok B lb hb) (ia : InB A la ha u v z) (ib : InB B lb hb u v z) : ¬ Par A B := by
  rintro ⟨i, hi, h⟩
  have h1 := ia.1 i hi
  have h2 := ins_right b.n3 b.cvx ib.1 h
  omega
/-- A point that is inside both shows that they are not apart. -/
theorem apa_in {A B : List (Int × Int)} {la ha lb hb u v z : Int} (a : Bok A la ha) (b : Bok B lb hb) (ia : InB A la ha u v z) (ib : InB B lb hb u v z) : ¬ Apa A la ha B lb hb := by
  obtain ⟨_, a1, a2⟩ := ia
  obtain ⟨_, b1, b2⟩ := ib
  rintro (h | h | h | h)
  · omega
  · omega
  · exact par_in b ⟨by assumption, a1, a2⟩ ⟨by assumption, b1, b2⟩ h
  · exact par_in a ⟨by assumption, b1, b2⟩ ⟨by assumption, a1, a2⟩ h
theorem par_mv {A B : List (Int × Int)} {x y : Int} : Par (mv A x y) (mv B x y) ↔ Par A B := by
  unfold Par
  rw [mv_len, mv_len]
  constructor
  · rintro ⟨i, hi, h⟩
    refine ⟨i, hi, fun j hj => ?_⟩
    have := h j hj
    rwa [mv_px hi, mv_px (nx_lt hi), mv_py hi, mv_py (nx_lt hi), mv_px hj, mv_py hj, crs_move] at this
  · rintro ⟨i, hi, h⟩
    refine ⟨i, hi, fun j hj => ?_⟩
    rw [mv_px hi, mv_px (nx_lt hi), mv_py hi, mv_py (nx_lt hi), mv_px hj, mv_py hj, crs_move]
    exact h j hj
theorem apa_mv {A B : List (Int × Int)} {la ha lb hb x y z : Int} : Apa (mv A x y) (la + z) (ha + z) (mv B x y) (lb + z) (hb + z) ↔ Apa A la ha B lb hb := by
  unfold Apa
  rw [par_mv, par_mv]
  constructor
  · rintro (h | h | h)
    · exact Or.inl (by omega)
    · exact Or.inr (Or.inl (by omega))
    · exact Or.inr (Or.inr h)
  · rintro (h | h | h)
    · exact Or.inl (by omega)
    · exact Or.inr (Or.inl (by omega))
    · exact Or.inr (Or.inr h)

/-! ### The conditions of a way -/
/-- The slope of an edge's turn along a way. -/
def slo (ax ay bx b_y dx dy : Int) : Int := (bx - ax) * dy - (b_y - ay) * dx
theorem slo_end (ax ay bx b_y fx fy tx ty : Int) : crs ax ay bx b_y fx fy + slo ax ay bx b_y (tx - fx) (ty - fy) = crs ax ay bx b_y tx ty := by unfold crs slo; grind
theorem slo_back (ax ay bx b_y fx fy tx ty : Int) : slo ax ay bx b_y (fx - tx) (fy - ty) = -slo ax ay bx b_y (tx - fx) (ty - fy) := by unfold slo; grind
/-- A point of a way that is divided into steps. -/
theorem slo_step (ax ay bx b_y fx fy sx sy k i : Int) : crs ax ay bx b_y fx fy * k + slo ax ay bx b_y (fx + k * sx - fx) (fy + k * sy - fy) * i = k * crs ax ay bx b_y (fx + i * sx) (fy + i * sy) := by unfold crs slo; grind
theorem slo_bd {ax ay bx b_y dx dy : Int} (h1 : co ax) (h2 : co ay) (h3 : co bx) (h4 : co b_y) (h5 : -4000 ≤ dx ∧ dx ≤ 4000) (h6 : -4000 ≤ dy ∧ dy ≤ 4000) : -32000000 ≤ slo ax ay bx b_y dx dy ∧ slo ax ay bx b_y dx dy ≤ 32000000 := by
  unfold co at h1 h2 h3 h4
  have k1 := mul_co (m := 4000) (k := 4000) (a := bx - ax) (b := dy) (by omega) h6
  have k2 := mul_co (m := 4000) (k := 4000) (a := b_y - ay) (b := dx) (by omega) h5
  unfold slo
  omega
theorem crs_le {ax ay bx b_y cx cy : Int} (h1 : co ax) (h2 : co ay) (h3 : co bx) (h4 : co b_y) (h5 : co cx) (h6 : co cy) : -32000000 ≤ crs ax ay bx b_y cx cy ∧ crs ax ay bx b_y cx cy ≤ 32000000 := by
  have := crs_bd h1 h2 h3 h4 h5 h6
  unfold crs
  omega
/-- All conditions of a way: those of the edges, in their order, then the bottom and the top. -/
def cnd (L : List (Int × Int)) (lo hi fx fy fz tx ty tz : Int) : List (Int × Int) :=
  ((List.range L.length).map fun i => (crs (px L i) (py L i) (px L (nx L.length i)) (py L (nx L.length i)) fx fy, slo (px L i) (py L i) (px L (nx L.length i)) (py L (nx L.length i)) (tx - fx) (ty - fy)))
    ++ [(fz - lo, tz - fz), (hi - fz, fz - tz)]
theorem cnd_bd {L : List (Int × Int)} {lo hi fx fy fz tx ty tz : Int} (b : Bok L lo hi) (f : V3 fx fy fz) (t : V3 tx ty tz) : ∀ c ∈ cnd L lo hi fx fy fz tx ty tz, (-32000000 ≤ c.1 ∧ c.1 ≤ 32000000) ∧ -32000000 ≤ c.2 ∧ c.2 ≤ 32000000 := by
  obtain ⟨f1, f2, f3⟩ := f
  obtain ⟨t1, t2, t3⟩ := t
  have zl := b.zl
  have zh := b.zh
  unfold co at f1 f2 f3 t1 t2 t3 zl zh
  intro c hc
  unfold cnd at hc
  rw [List.mem_append] at hc
  rcases hc with h | h
  · obtain ⟨i, hi, rfl⟩ := List.mem_map.1 h
    rw [List.mem_range] at hi
    exact ⟨crs_le (b.rx i hi) (b.ry i hi) (b.rx _ (nx_lt hi)) (b.ry _ (nx_lt hi)) f1 f2, slo_bd (b.rx i hi) (b.ry i hi) (b.rx _ (nx_lt hi)) (b.ry _ (nx_lt hi)) ⟨by omega, by omega⟩ ⟨by omega, by omega⟩⟩
  · simp only [List.mem_cons, List.not_mem_nil, or_false] at h
    rcases h with rfl | rfl
    · exact ⟨⟨by simp only; omega, by simp only; omega⟩, by simp only; omega, by simp only; omega⟩
    · exact ⟨⟨by simp only; omega, by simp only; omega⟩, by simp only; omega, by simp only; omega⟩
theorem cnd_back (L : List (Int × Int)) (lo hi fx fy fz tx ty tz : Int) : cnd L lo hi tx ty tz fx fy fz = (cnd L lo hi fx fy fz tx ty tz).map fun c => (c.1 + c.2, -c.2) := by
  unfold cnd
  rw [List.map_append, List.map_map]
  congr 1
  · apply List.map_congr_left
    intro i hi
    show (_, _) = (_, _)
    rw [slo_end, slo_back]
  · show [(tz - lo, fz - tz), (hi - tz, tz - fz)] = [(fz - lo + (tz - fz), -(tz - fz)), (hi - fz + (fz - tz), -(fz - tz))]
    rw [show fz - lo + (tz - fz) = tz - lo by omega, show -(tz - fz) = fz - tz by omega, show hi - fz + (fz - tz) = hi - tz by omega, show -(fz - tz) = tz - fz by omega]
/-- Moved with the body, the conditions stay. -/
theorem cnd_mv (L : List (Int × Int)) (lo hi fx fy fz tx ty tz x y z : Int) : cnd (mv L x y) (lo + z) (hi + z) (fx + x) (fy + y) (fz + z) (tx + x) (ty + y) (tz + z) = cnd L lo hi fx fy fz tx ty tz := by
  unfold cnd
  rw [mv_len]
  congr 1
  · apply List.map_congr_left
    intro i hi
    rw [List.mem_range] at hi
    rw [mv_px hi, mv_px (nx_lt hi), mv_py hi, mv_py (nx_lt hi), crs_move, show tx + x - (fx + x) = tx - fx by omega, show ty + y - (fy + y) = ty - fy by omega]
    unfold slo
    congr 1
    grind
  · rw [show fz + z - (lo + z) = fz - lo by omega, show tz + z - (fz + z) = tz - fz by omega, show hi + z - (fz + z) = hi - fz by omega, show fz + z - (tz + z) = fz - tz by omega]
/-- Between two points inside the way is inside all along. -/
theorem cnd_in {L : List (Int × Int)} {lo hi fx fy fz tx ty tz : Int} (f : InB L lo hi fx fy fz) (t : InB L lo hi tx ty tz) : clp r0 (cnd L lo hi fx fy fz tx ty tz) = r0 := by
  apply clp_in
  intro c hc
  unfold cnd at hc
  rw [List.mem_append] at hc
  rcases hc with h | h
  · obtain ⟨i, hi, rfl⟩ := List.mem_map.1 h
    rw [List.mem_range] at hi
    refine ⟨f.1 i hi, ?_⟩
    show 0 < _ + _
    rw [slo_end]
    exact t.1 i hi
  · have f1 := f.2
    have t1 := t.2
    simp only [List.mem_cons, List.not_mem_nil, or_false] at h
    rcases h with rfl | rfl
    · exact ⟨by simp only; omega, by simp only; omega⟩
    · exact ⟨by simp only; omega, by simp only; omega⟩
/-- A point of a way of steps is inside exactly if its part is in the range. -/
theorem cnd_step {L : List (Int × Int)} {lo hi fx fy fz sx sy sz k i : Int} (hk : 0 < k) :
    (∀ c ∈ cnd L lo hi fx fy fz (fx + k * sx) (fy + k * sy) (fz + k * sz), 0 < c.1 * k + c.2 * i) ↔ InB L lo hi (fx + i * sx) (fy + i * sy) (fz + i * sz) := by
  have pos : ∀ {x : Int}, 0 < k * x ↔ 0 < x := fun {x} => ⟨fun h => pos_of_mul_right hk (by rwa [Int.mul_comm] at h), fun h => Int.mul_pos hk h⟩
  unfold cnd InB
  simp only [List.forall_mem_append, List.forall_mem_map, List.mem_range, List.forall_mem_cons, List.not_mem_nil, false_implies, implies_true, and_true]
  constructor
  · rintro ⟨h1, h2, h3⟩
    refine ⟨fun j hj => ?_, ?_, ?_⟩
    · have := h1 j hj
      rw [slo_step] at this
      exact pos.1 this
    · have e : (fz - lo) * k + (fz + k * sz - fz) * i = k * (fz + i * sz - lo) := by grind
      rw [e] at h2
      have := pos.1 h2
      omega
    · have e : (hi - fz) * k + (fz - (fz + k * sz)) * i = k * (hi - (fz + i * sz)) := by grind
      rw [e] at h3
      have := pos.1 h3
      omega
  · rintro ⟨h1, h2, h3⟩
    refine ⟨fun j hj => ?_, ?_, ?_⟩
    · rw [slo_step]
      exact pos.2 (h1 j hj)
    · have e : (fz - lo) * k + (fz + k * sz - fz) * i = k * (fz + i * sz - lo) := by grind
      rw [e]
      exact pos.2 (by omega)
    · have e : (hi - fz) * k + (fz - (fz + k * sz)) * i = k * (hi - (fz + i * sz)) := by grind
      rw [e]
      exact pos.2 (by omega)
end Go.Proofs.Ytjjimbaogpmbmaa
