/-
  Rows of pairs that a call has made; the pieces between ends, combine, Union, Common, Minus.
-/
import Derived.Test.YtgdgpfpihpofdaaSpnF
import Derived.StillTailTactics
namespace Go.Proofs.Ytgdgpfpihpofdaa
open Go.RowKit Go.Sort
open Go.RowKit (Below)
set_option linter.unusedVariables false

/-- A list of spans that a call has made. -/
def MkS (w : World) (xs : List Spn) (e : Ending) (w' : World) : Prop := ∃ A C, e = .returned (.slice A xs.length C) ∧ SlS w' A xs ∧ Below w.heap.size w w'
theorem new_two (wr : World) (x y : Int) (t : TypeId) (j : Nat) (u : Value) (h : [Value.int .i64 x, .int .i64 y][j]? = some u) : (wr.alloc (.cells #[.int .i64 x, .int .i64 y] t)).cell? ((⟨wr.heap.size, 0, none⟩ : Addr).add j) = some u := by
  match j, h with
  | 0, h => simp at h; subst h; simp [Addr.add, go_sem]
  | 1, h => simp at h; subst h; simp [Addr.add, go_sem]
theorem two_cell {x y : Int} : ∀ u ∈ [Value.int .i64 x, .int .i64 y], u.oneCell' = true := by
  intro u hu
  simp at hu
  rcases hu with rfl | rfl <;> rfl
theorem flat_snoc (xs : List Spn) (x y : Int) : flatV xs ++ [.int .i64 x, .int .i64 y] = flatV (xs ++ [(x, y)]) := by simp [flatV]
/-- The last element of an own row of pairs. -/
theorem own_last {w : World} {base : Nat} {e : TypeId} {v : Value} {o : List Spn} {f u : Int} (h : w.ownsRow base e 2 v (o.length + 1) (flatV (o ++ [(f, u)]))) :
    ∃ g cap, v = .slice (some ⟨g, 0, none⟩) (o.length + 1) cap ∧ base ≤ g ∧ w.cell? ⟨g, o.length * 2 + 1, none⟩ = some (.int .i64 u) ∧ w.frozen? ⟨g, o.length * 2 + 1, none⟩ = false ∧
      ∀ x : Int, (w.setCell ⟨g, o.length * 2 + 1, none⟩ (.int .i64 x)).ownsRow base e 2 v (o.length + 1) (flatV (o ++ [(f, x)])) := by
  rcases h.2 with ⟨_, h0⟩ | ⟨g, cap, cur, rfl, hb, hg, hn, hm, hs, ht⟩
  · omega
  · refine ⟨g, cap, rfl, hb, ?_, World.ownsRow.frozenAt h _, fun x => ?_⟩
    · rw [World.ownsRow.cellAt h _ (by omega)]
      have := (flatV_at (xs := o ++ [(f, u)]) (k := o.length) (by simp)).2
      rw [this, gdS_at (by simp)]
      simp
    · have := (World.ownsRow.stored h (o.length * 2 + 1) (.int .i64 x)).1
      rw [show (flatV (o ++ [(f, u)])).set (o.length * 2 + 1) (.int .i64 x) = flatV (o ++ [(f, x)]) by
        rw [← flat_snoc, ← flat_snoc, List.set_append_right _ _ (by rw [flatV_len]; omega), flatV_len, show o.length * 2 + 1 - o.length * 2 = 1 by omega]; rfl] at this
      exact this
theorem sorted_at {X : List Int} {i : Nat} (hs : X.Pairwise (· ≤ ·)) (hi : i + 1 < X.length) : gd X i ≤ gd X (i + 1) ∧ ∀ e ∈ X, e ≤ gd X i ∨ gd X (i + 1) ≤ e := by
  have key : ∀ j k, j ≤ k → k < X.length → gd X j ≤ gd X k := fun j k hjk hk => by
    rcases Nat.lt_or_eq_of_le hjk with h | rfl
    · rw [gd_at (by omega), gd_at hk]
      exact List.pairwise_iff_getElem.1 hs j k (by omega) hk h
    · exact Int.le_refl _
  refine ⟨key _ _ (by omega) hi, fun e he => ?_⟩
  obtain ⟨j, hj, rfl⟩ := List.getElem_of_mem he
  rw [← gd_at hj]
  rcases Nat.lt_or_ge i j with h | h
  · exact .inr (key _ _ (by omega) hj)
  · exact .inl (key _ _ h (by omega))


def tkS (op : Bool → Bool → Bool) (xs ys : List Spn) (m : Int) : Bool := op (hasS xs m) (hasS ys m)
/-- What the ends of two lists, in order, are good for. -/
structure Pc (op : Bool → Bool → Bool) (xs ys : List Spn) (X : List Int) : Prop where
  bd : ∀ e ∈ X, 0 ≤ e ∧ e ≤ 600001
  start : 0 < X.length → Bd (tkS op xs ys) [] (gd X 0)
  step : ∀ i, i + 1 < X.length → gd X i ≤ gd X (i + 1) ∧ ∀ m, gd X i ≤ m → m < gd X (i + 1) → tkS op xs ys m = tkS op xs ys (gd X i)
  fin : ∀ zs i, i < X.length → ¬ i + 1 < X.length → Bd (tkS op xs ys) zs (gd X i) → zs = cmb op xs ys
  nil : X.length = 0 → [] = cmb op xs ys
theorem pieces {op : Bool → Bool → Bool} (h0 : op false false = false) {xs ys : List Spn} {X : List Int} (cx : chk (-1) xs = true) (cy : chk (-1) ys = true) (hp : ∀ e, e ∈ X ↔ e ∈ endsS xs ++ endsS ys) (hs : X.Pairwise (· ≤ ·)) : Pc op xs ys X := by
  have hXa : ∀ e ∈ endsS xs, e ∈ X := fun e he => (hp _).2 (List.mem_append.2 (.inl he))
  have hXb : ∀ e ∈ endsS ys, e ∈ X := fun e he => (hp _).2 (List.mem_append.2 (.inr he))
  refine ⟨fun e he => ?_, fun h => ?_, fun i hi => ?_, fun zs i hi hn b => ?_, fun h => ?_⟩
  · rcases List.mem_append.1 ((hp _).1 he) with h | h
    · exact ends_bd cx h
    · exact ends_bd cy h
  · have hc : ∀ e ∈ X, gd X 0 ≤ e := fun e he => by
      have := sorted_drop hs h (x := e) (by simpa using he)
      exact this
    refine Bd.start ?_ fun m hm => ?_
    · have hm := getD_mem h
      rcases List.mem_append.1 ((hp _).1 hm) with h | h
      · exact (ends_bd cx h).1
      · exact (ends_bd cy h).1
    · show op _ _ = _
      rw [has_before (fun e he => hc e (hXa e he)) hm, has_before (fun e he => hc e (hXb e he)) hm, h0]
  · obtain ⟨h1, h2⟩ := sorted_at hs hi
    refine ⟨h1, fun m a b => ?_⟩
    show op _ _ = op _ _
    rw [has_const (fun e he => h2 e (hXa e he)) a b, has_const (fun e he => h2 e (hXb e he)) a b]
  · have hc : ∀ e ∈ X, e ≤ gd X i := fun e he => by
      obtain ⟨j, hj, rfl⟩ := List.getElem_of_mem he
      rw [← gd_at hj]
      rcases Nat.lt_or_eq_of_le (show j ≤ i by omega) with h | rfl
      · rw [gd_at hj, gd_at hi]
        exact List.pairwise_iff_getElem.1 hs j i hj hi h
      · exact Int.le_refl _
    refine cmb_is h0 cx cy b.ok (b.done fun m hm => ?_)
    show op _ _ = _
    rw [has_behind (fun e he => hc e (hXa e he)) hm, has_behind (fun e he => hc e (hXb e he)) hm, h0]
  · have hX : X = [] := List.eq_nil_of_length_eq_zero h
    have e1 : xs = [] := by
      cases xs with
      | nil => rfl
      | cons s r => have := hXa s.1 (mem_ends.2 ⟨s, by simp, .inl rfl⟩); rw [hX] at this; cases this
    have e2 : ys = [] := by
      cases ys with
      | nil => rfl
      | cons s r => have := hXb s.1 (mem_ends.2 ⟨s, by simp, .inl rfl⟩); rw [hX] at this; cases this
    subst e1 e2
    exact cmb_is h0 rfl rfl (p := -1) rfl fun m => by rw [has_nil, h0]
end Go.Proofs.Ytgdgpfpihpofdaa
