/-
  Out of the texts of layer 1: package rational's Add, the reference's Valid and Make. Rows of targets and bodies as lists of cells: for the laws' own appends.
-/
import Derived.Test.YtjjimbaogpmbmaaZSgtZD
import Derived.Test.YtjjimbaogpmbmaaZShpG
import Derived.Test.YtjjimbaogpmbmaaZShpPO
import Derived.Test.YtjjimbaogpmbmaaZShpPH
import Derived.Test.YtjjimbaogpmbmaaZShpX
import Derived.Test.YtjjimbaogpmbmaaZShpD
import Derived.Deep.RegionHeld3
import Derived.Test.YtjjimbaogpmbmaaZShpW
import Derived.Deep.AppendLies
import Derived.Laws.OwnMore
import Derived.Test.YtjjimbaogpmbmaaZGenE
namespace Go.Proofs.Ytjjimbaogpmbmaa
open Go.RowKit Go.Sort
open Go.RowKit (Below)
theorem Bd.i64 {x : Int} (h : Bd x) : I64 x := by obtain ⟨h1, h2⟩ := h; exact ⟨by omega, by omega⟩
end Go.Proofs.Ytjjimbaogpmbmaa

namespace Go.Proofs.Ytjjimbaogpmbmaa
open Go.RowKit Go.Sort
open Go.RowKit (Below)
set_option linter.unusedVariables false
set_option linter.unusedSimpArgs false

section
variable {α : Type} {f : α → List Value} {n : Nat}
/-- The cells of a row, one element after another. -/
def flt (f : α → List Value) (L : List α) : List Value := L.flatMap f
theorem flt_len (hf : ∀ x, (f x).length = n) : ∀ L : List α, (flt f L).length = L.length * n
  | [] => by simp [flt]
  | x :: L => by
    show (f x ++ flt f L).length = _
    rw [List.length_append, hf, flt_len hf L, List.length_cons, Nat.add_mul, Nat.one_mul, Nat.add_comm]
theorem flt_snoc (L : List α) (x : α) : flt f L ++ f x = flt f (L ++ [x]) := by simp [flt]
theorem flt_app (L M : List α) : flt f L ++ flt f M = flt f (L ++ M) := by simp [flt]
theorem flt_at (hf : ∀ x, (f x).length = n) : ∀ {L : List α} {k i : Nat} (hk : k < L.length) (hi : i < n), (flt f L)[k * n + i]? = (f L[k])[i]?
  | x :: L, 0, i, _, hi => by
    show (f x ++ flt f L)[0 * n + i]? = _
    rw [Nat.zero_mul, Nat.zero_add, List.getElem?_append_left (by rw [hf]; exact hi)]
    rfl
  | x :: L, k + 1, i, hk, hi => by
    show (f x ++ flt f L)[(k + 1) * n + i]? = _
    rw [List.getElem?_append_right (by rw [hf, Nat.add_mul, Nat.one_mul]; omega), hf, show (k + 1) * n + i - n = k * n + i by rw [Nat.add_mul, Nat.one_mul]; omega]
    exact flt_at hf (L := L) (by simpa using hk) hi
theorem flt_one (h : ∀ x, ∀ u ∈ f x, u.oneCell' = true) (L : List α) : ∀ u ∈ flt f L, u.oneCell' = true := by
  intro u hu
  obtain ⟨x, _, hx⟩ := List.mem_flatMap.1 hu
  exact h x u hx
end
def q4c (q : Q4) : List Value := [.int .i64 q.a, .int .i64 q.b, .int .i64 q.c, .int .i64 q.d]
def bvc (b : Bv) : List Value := [.slice b.A b.xs.length b.C, .int .i64 b.lo, .int .i64 b.hi]
theorem q4c_len (q : Q4) : (q4c q).length = 4 := rfl
theorem bvc_len (b : Bv) : (bvc b).length = 3 := rfl
theorem q4c_one (q : Q4) : ∀ u ∈ q4c q, u.oneCell' = true := by
  intro u hu; simp only [q4c, List.mem_cons, List.not_mem_nil, or_false] at hu
  rcases hu with rfl | rfl | rfl | rfl <;> rfl
theorem bvc_one (q : Bv) : ∀ u ∈ bvc q, u.oneCell' = true := by
  intro u hu; simp only [bvc, List.mem_cons, List.not_mem_nil, or_false] at hu
  rcases hu with rfl | rfl | rfl <;> rfl
theorem bvc_at {L : List Bv} {k : Nat} (hk : k < L.length) : (flt bvc L)[k * 3]? = some (.slice (gdB L k).A (gdB L k).xs.length (gdB L k).C) ∧ (flt bvc L)[k * 3 + 1]? = some (.int .i64 (gdB L k).lo) ∧ (flt bvc L)[k * 3 + 2]? = some (.int .i64 (gdB L k).hi) := by
  have h0 := flt_at bvc_len hk (show 0 < 3 by omega)
  have h1 := flt_at bvc_len hk (show 1 < 3 by omega)
  have h2 := flt_at bvc_len hk (show 2 < 3 by omega)
  rw [← gdB_at hk] at h0 h1 h2
  exact ⟨h0, h1, h2⟩
theorem q4c_at {L : List Q4} {k : Nat} (hk : k < L.length) : (flt q4c L)[k * 4]? = some (.int .i64 (gd4 L k).a) ∧ (flt q4c L)[k * 4 + 1]? = some (.int .i64 (gd4 L k).b) ∧ (flt q4c L)[k * 4 + 2]? = some (.int .i64 (gd4 L k).c) ∧ (flt q4c L)[k * 4 + 3]? = some (.int .i64 (gd4 L k).d) := by
  have h0 := flt_at q4c_len hk (show 0 < 4 by omega)
  have h1 := flt_at q4c_len hk (show 1 < 4 by omega)
  have h2 := flt_at q4c_len hk (show 2 < 4 by omega)
  have h3 := flt_at q4c_len hk (show 3 < 4 by omega)
  rw [← gd4_at hk] at h0 h1 h2 h3
  exact ⟨h0, h1, h2, h3⟩
/-- The cells of a slice, as append takes them. -/
theorem s4_cells {w : World} {b o : Nat} {L : List Q4} (h : S4 w (some ⟨b, o, none⟩) L) (j : Nat) (u : Value) (hu : (flt q4c L)[j]? = some u) : w.cell? ((⟨b, o, none⟩ : Addr).add j) = some u := by
  have hj : j < L.length * 4 := by rw [← flt_len q4c_len]; exact (List.getElem?_eq_some_iff.1 hu).1
  have hk : j / 4 < L.length := by omega
  obtain ⟨b1, o1, e, c0, c1, c2, c3⟩ := h _ hk
  obtain ⟨rfl, rfl⟩ : b = b1 ∧ o = o1 := by simpa using e
  obtain ⟨e0, e1, e2, e3⟩ := q4c_at hk
  rw [add_plain b o j]
  have hm : j % 4 = 0 ∨ j % 4 = 1 ∨ j % 4 = 2 ∨ j % 4 = 3 := by omega
  rcases hm with p | p | p | p
  · rw [show j / 4 * 4 = j by omega] at e0 c0; rw [e0] at hu; rw [c0, hu]
  · rw [show j / 4 * 4 + 1 = j by omega] at e1; rw [show o + j / 4 * 4 + 1 = o + j by omega] at c1; rw [e1] at hu; rw [c1, hu]
  · rw [show j / 4 * 4 + 2 = j by omega] at e2; rw [show o + j / 4 * 4 + 2 = o + j by omega] at c2; rw [e2] at hu; rw [c2, hu]
  · rw [show j / 4 * 4 + 3 = j by omega] at e3; rw [show o + j / 4 * 4 + 3 = o + j by omega] at c3; rw [e3] at hu; rw [c3, hu]
theorem bds_cells {w : World} {b o : Nat} {L : List Bv} (h : BdS w (some ⟨b, o, none⟩) L) (j : Nat) (u : Value) (hu : (flt bvc L)[j]? = some u) : w.cell? ((⟨b, o, none⟩ : Addr).add j) = some u := by
  have hj : j < L.length * 3 := by rw [← flt_len bvc_len]; exact (List.getElem?_eq_some_iff.1 hu).1
  have hk : j / 3 < L.length := by omega
  obtain ⟨b1, o1, e, c0, c1, c2, _⟩ := h _ hk
  obtain ⟨rfl, rfl⟩ : b = b1 ∧ o = o1 := by simpa using e
  obtain ⟨e0, e1, e2⟩ := bvc_at hk
  rw [add_plain b o j]
  have hm : j % 3 = 0 ∨ j % 3 = 1 ∨ j % 3 = 2 := by omega
  rcases hm with p | p | p
  · rw [show j / 3 * 3 = j by omega] at e0 c0; rw [e0] at hu; rw [c0, hu]
  · rw [show j / 3 * 3 + 1 = j by omega] at e1; rw [show o + j / 3 * 3 + 1 = o + j by omega] at c1; rw [e1] at hu; rw [c1, hu]
  · rw [show j / 3 * 3 + 2 = j by omega] at e2; rw [show o + j / 3 * 3 + 2 = o + j by omega] at c2; rw [e2] at hu; rw [c2, hu]
theorem gdB_app_l {L M : List Bv} {i : Nat} (h : i < L.length) : gdB (L ++ M) i = gdB L i := by
  unfold gdB; rw [List.getD_eq_getElem?_getD, List.getD_eq_getElem?_getD, List.getElem?_append_left h]
theorem gdB_app_r {L M : List Bv} {i : Nat} (h : ¬ i < L.length) : gdB (L ++ M) i = gdB M (i - L.length) := by
  unfold gdB; rw [List.getD_eq_getElem?_getD, List.getD_eq_getElem?_getD, List.getElem?_append_right (by omega)]
theorem gd4_app_l {L M : List Q4} {i : Nat} (h : i < L.length) : gd4 (L ++ M) i = gd4 L i := by
  unfold gd4; rw [List.getD_eq_getElem?_getD, List.getD_eq_getElem?_getD, List.getElem?_append_left h]
theorem gd4_app_r {L M : List Q4} {i : Nat} (h : ¬ i < L.length) : gd4 (L ++ M) i = gd4 M (i - L.length) := by
  unfold gd4; rw [List.getD_eq_getElem?_getD, List.getD_eq_getElem?_getD, List.getElem?_append_right (by omega)]
theorem s4_src {w : World} {A : Option Addr} {L : List Q4} (h : S4 w A L) : Src w A (flt q4c L) := fun j u hu => by
  have hj : j < L.length * 4 := by rw [← flt_len q4c_len]; exact (List.getElem?_eq_some_iff.1 hu).1
  obtain ⟨b1, o1, rfl, _⟩ := h (j / 4) (by omega)
  exact ⟨_, rfl, s4_cells h j u hu⟩
theorem bds_src {w : World} {A : Option Addr} {L : List Bv} (h : BdS w A L) : Src w A (flt bvc L) := fun j u hu => by
  have hj : j < L.length * 3 := by rw [← flt_len bvc_len]; exact (List.getElem?_eq_some_iff.1 hu).1
  obtain ⟨b1, o1, rfl, _⟩ := h (j / 3) (by omega)
  exact ⟨_, rfl, bds_cells h j u hu⟩
/-- A row of one's own as a slice of targets, of bodies. -/
theorem own_s4 {w : World} {base n : Nat} {e : TypeId} {v : Value} {L : List Q4} (h : w.ownsRow base e 4 v n (flt q4c L)) : ∃ A C, v = .slice A L.length C ∧ n = L.length ∧ L.length ≤ C ∧ C ≤ maxLen ∧ S4 w A L := by
  have hn : n = L.length := by have := h.1; rw [flt_len q4c_len] at this; omega
  subst hn
  obtain ⟨A, C, hv, h1, h2, hc⟩ := own_form h
  refine ⟨A, C, hv, rfl, h1, h2, fun k hk => ?_⟩
  obtain ⟨e0, e1, e2, e3⟩ := q4c_at hk
  obtain ⟨g, rfl, _, c0⟩ := hc _ _ e0
  obtain ⟨g1, k1, _, c1⟩ := hc _ _ e1
  obtain ⟨g2, k2, _, c2⟩ := hc _ _ e2
  obtain ⟨g3, k3, _, c3⟩ := hc _ _ e3
  obtain rfl : g = g1 := by simpa using k1
  obtain rfl : g = g2 := by simpa using k2
  obtain rfl : g = g3 := by simpa using k3
  exact ⟨g, 0, rfl, by rw [Nat.zero_add]; exact c0, by rw [Nat.zero_add]; exact c1, by rw [Nat.zero_add]; exact c2, by rw [Nat.zero_add]; exact c3⟩
theorem own_bds {w : World} {base n : Nat} {e : TypeId} {v : Value} {L : List Bv} (h : w.ownsRow base e 3 v n (flt bvc L)) (hs : ∀ k, k < L.length → SlS w (gdB L k).A (gdB L k).xs) : ∃ A C, v = .slice A L.length C ∧ n = L.length ∧ L.length ≤ C ∧ C ≤ maxLen ∧ BdS w A L := by
  have hn : n = L.length := by have := h.1; rw [flt_len bvc_len] at this; omega
  subst hn
  obtain ⟨A, C, hv, h1, h2, hc⟩ := own_form h
  refine ⟨A, C, hv, rfl, h1, h2, fun k hk => ?_⟩
  obtain ⟨e0, e1, e2⟩ := bvc_at hk
  obtain ⟨g, rfl, _, c0⟩ := hc _ _ e0
  obtain ⟨g1, k1, _, c1⟩ := hc _ _ e1
  obtain ⟨g2, k2, _, c2⟩ := hc _ _ e2
  obtain rfl : g = g1 := by simpa using k1
  obtain rfl : g = g2 := by simpa using k2
  exact ⟨g, 0, rfl, by rw [Nat.zero_add]; exact c0, by rw [Nat.zero_add]; exact c1, by rw [Nat.zero_add]; exact c2, hs k hk⟩
end Go.Proofs.Ytjjimbaogpmbmaa
