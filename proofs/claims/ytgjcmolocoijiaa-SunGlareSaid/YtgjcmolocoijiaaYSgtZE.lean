/-
  Out of the texts of layer 1: package rational's Add, the reference's Valid and Make. Rows of targets and bodies as lists of cells: for the laws' own appends.
-/
import Derived.Test.YtgjcmolocoijiaaYSgtZD
import Derived.Test.YtgjcmolocoijiaaYShpG
import Derived.Test.YtgjcmolocoijiaaYShpPG
import Derived.Test.YtgjcmolocoijiaaYShpPK
import Derived.Test.YtgjcmolocoijiaaYShpPS
import Derived.Laws.CopyRow
import Derived.Laws.CopyOwn
import Derived.Laws.MakeOwn
import Derived.StillTailTactics
import Derived.Deep.SlicePairs
import Derived.Test.YtgjcmolocoijiaaYShpPH
import Derived.Test.YtgjcmolocoijiaaYShpY
import Derived.Deep.AppendLies
import Derived.Laws.OwnMore
import Derived.Test.YtgjcmolocoijiaaYGenE
namespace Go.Proofs.Ytgjcmolocoijiaa
open Go.RowKit Go.Sort
open Go.RowKit (Below)
set_option linter.unusedVariables false
set_option linter.unusedSimpArgs false










theorem Bd.i64 {x : Int} (h : Bd x) : I64 x := by obtain ⟨h1, h2⟩ := h; exact ⟨by omega, by omega⟩














end Go.Proofs.Ytgjcmolocoijiaa

namespace Go.Proofs.Ytgjcmolocoijiaa
open Go.RowKit Go.Sort
open Go.RowKit (Below)
set_option linter.unusedVariables false
set_option linter.unusedSimpArgs false

section
variable {α : Type} {f : α → List Value} {n : Nat}
/-- The cells of a row, one element after another. -/
def flt (f : α → List Value) (L : List α) : List Value := L.flatMap f
theorem flt_len (hf : ∀ x, (f x).length = n) : ∀ L : List α, (flt f L).length = L.length * n
  | [] => by simp [flt]
  | x :: L => by
    show (f x ++ flt f L).length = _
    rw [List.length_append, hf, flt_len hf L, List.length_cons, Nat.add_mul, Nat.one_mul, Nat.add_comm]

theorem flt_app (L M : List α) : flt f L ++ flt f M = flt f (L ++ M) := by simp [flt]
theorem flt_at (hf : ∀ x, (f x).length = n) : ∀ {L : List α} {k i : Nat} (hk : k < L.length) (hi : i < n), (flt f L)[k * n + i]? = (f L[k])[i]?
  | x :: L, 0, i, _, hi => by
    show (f x ++ flt f L)[0 * n + i]? = _
    rw [Nat.zero_mul, Nat.zero_add, List.getElem?_append_left (by rw [hf]; exact hi)]
    rfl
  | x :: L, k + 1, i, hk, hi => by
    show (f x ++ flt f L)[(k + 1) * n + i]? = _
    rw [List.getElem?_append_right (by rw [hf, Nat.add_mul, Nat.one_mul]; omega), hf, show (k + 1) * n + i - n = k * n + i by rw [Nat.add_mul, Nat.one_mul]; omega]
    exact flt_at hf (L := L) (by simpa using hk) hi
theorem flt_one (h : ∀ x, ∀ u ∈ f x, u.oneCell' = true) (L : List α) : ∀ u ∈ flt f L, u.oneCell' = true := by
  intro u hu
  obtain ⟨x, _, hx⟩ := List.mem_flatMap.1 hu
  exact h x u hx
end

def bvc (b : Bv) : List Value := [.slice b.A b.xs.length b.C, .int .i64 b.lo, .int .i64 b.hi]

theorem bvc_len (b : Bv) : (bvc b).length = 3 := rfl

theorem bvc_one (q : Bv) : ∀ u ∈ bvc q, u.oneCell' = true := by
  intro u hu; simp only [bvc, List.mem_cons, List.not_mem_nil, or_false] at hu
  rcases hu with rfl | rfl | rfl <;> rfl
theorem bvc_at {L : List Bv} {k : Nat} (hk : k < L.length) : (flt bvc L)[k * 3]? = some (.slice (gdB L k).A (gdB L k).xs.length (gdB L k).C) ∧ (flt bvc L)[k * 3 + 1]? = some (.int .i64 (gdB L k).lo) ∧ (flt bvc L)[k * 3 + 2]? = some (.int .i64 (gdB L k).hi) := by
  have h0 := flt_at bvc_len hk (show 0 < 3 by omega)
  have h1 := flt_at bvc_len hk (show 1 < 3 by omega)
  have h2 := flt_at bvc_len hk (show 2 < 3 by omega)
  rw [← gdB_at hk] at h0 h1 h2
  exact ⟨h0, h1, h2⟩


theorem bds_cells {w : World} {b o : Nat} {L : List Bv} (h : BdS w (some ⟨b, o, none⟩) L) (j : Nat) (u : Value) (hu : (flt bvc L)[j]? = some u) : w.cell? ((⟨b, o, none⟩ : Addr).add j) = some u := by
  have hj : j < L.length * 3 := by rw [← flt_len bvc_len]; exact (List.getElem?_eq_some_iff.1 hu).1
  have hk : j / 3 < L.length := by omega
  obtain ⟨b1, o1, e, c0, c1, c2, _⟩ := h _ hk
  obtain ⟨rfl, rfl⟩ : b = b1 ∧ o = o1 := by simpa using e
  obtain ⟨e0, e1, e2⟩ := bvc_at hk
  rw [add_plain b o j]
  have hm : j % 3 = 0 ∨ j % 3 = 1 ∨ j % 3 = 2 := by omega
  rcases hm with p | p | p
  · rw [show j / 3 * 3 = j by omega] at e0 c0; rw [e0] at hu; rw [c0, hu]
  · rw [show j / 3 * 3 + 1 = j by omega] at e1; rw [show o + j / 3 * 3 + 1 = o + j by omega] at c1; rw [e1] at hu; rw [c1, hu]
  · rw [show j / 3 * 3 + 2 = j by omega] at e2; rw [show o + j / 3 * 3 + 2 = o + j by omega] at c2; rw [e2] at hu; rw [c2, hu]
theorem gdB_app_l {L M : List Bv} {i : Nat} (h : i < L.length) : gdB (L ++ M) i = gdB L i := by
  unfold gdB; rw [List.getD_eq_getElem?_getD, List.getD_eq_getElem?_getD, List.getElem?_append_left h]
theorem gdB_app_r {L M : List Bv} {i : Nat} (h : ¬ i < L.length) : gdB (L ++ M) i = gdB M (i - L.length) := by
  unfold gdB; rw [List.getD_eq_getElem?_getD, List.getD_eq_getElem?_getD, List.getElem?_append_right (by omega)]



theorem bds_src {w : World} {A : Option Addr} {L : List Bv} (h : BdS w A L) : Src w A (flt bvc L) := fun j u hu => by
  have hj : j < L.length * 3 := by rw [← flt_len bvc_len]; exact (List.getElem?_eq_some_iff.1 hu).1
  obtain ⟨b1, o1, rfl, _⟩ := h (j / 3) (by omega)
  exact ⟨_, rfl, bds_cells h j u hu⟩

theorem own_bds {w : World} {base n : Nat} {e : TypeId} {v : Value} {L : List Bv} (h : w.ownsRow base e 3 v n (flt bvc L)) (hs : ∀ k, k < L.length → SlS w (gdB L k).A (gdB L k).xs) : ∃ A C, v = .slice A L.length C ∧ n = L.length ∧ L.length ≤ C ∧ C ≤ maxLen ∧ BdS w A L := by
  have hn : n = L.length := by have := h.1; rw [flt_len bvc_len] at this; omega
  subst hn
  obtain ⟨A, C, hv, h1, h2, hc⟩ := own_form h
  refine ⟨A, C, hv, rfl, h1, h2, fun k hk => ?_⟩
  obtain ⟨e0, e1, e2⟩ := bvc_at hk
  obtain ⟨g, rfl, _, c0⟩ := hc _ _ e0
  obtain ⟨g1, k1, _, c1⟩ := hc _ _ e1
  obtain ⟨g2, k2, _, c2⟩ := hc _ _ e2
  obtain rfl : g = g1 := by simpa using k1
  obtain rfl : g = g2 := by simpa using k2
  exact ⟨g, 0, rfl, by rw [Nat.zero_add]; exact c0, by rw [Nat.zero_add]; exact c1, by rw [Nat.zero_add]; exact c2, hs k hk⟩
end Go.Proofs.Ytgjcmolocoijiaa
