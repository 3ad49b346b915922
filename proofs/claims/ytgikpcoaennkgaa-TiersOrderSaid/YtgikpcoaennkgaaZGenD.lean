/-
  Plain tools, no function of the program: slices of numbers of any kind; rows that a call has made; an append of whatever can be read.
-/
import Derived.Test.YtgikpcoaennkgaaZGenA
import Derived.Maps.AppendAt
import Derived.Deep.AppendLies
import Derived.Lib.AppendStr
import Derived.Laws.CopyOwn
namespace Go.Proofs.Ytgikpcoaennkgaa
open Go.RowKit Go.Sort
open Go.RowKit (Below)
set_option linter.unusedVariables false
set_option linter.unusedSimpArgs false

/-- The slice at A reads as the numbers xs of kind k. -/
def Sk (k : IntKind) (w : World) (A : Option Addr) (xs : List Int) : Prop := ∀ j, j < xs.length → ∃ b o, A = some ⟨b, o, none⟩ ∧ w.cell? ⟨b, o + j, none⟩ = some (.int k (gd xs j))
section
variable {k : IntKind} {w w' : World} {A : Option Addr} {xs ys : List Int}
theorem Sk.same (h : Sk k w A xs) (hb : ∀ b o, A = some ⟨b, o, none⟩ → b < w.heap.size → w'.heap[b]? = w.heap[b]?) : Sk k w' A xs := by
  intro j hj
  obtain ⟨b, o, e, hc⟩ := h j hj
  refine ⟨b, o, e, ?_⟩
  rw [World.cell?_of_block (a := ⟨b, o + j, none⟩) (hb b o e (block_lt hc))]
  exact hc
theorem Sk.below (h : Sk k w A xs) (hb : Below w.heap.size w w') : Sk k w' A xs := h.same fun b _ _ hlt => hb.block b hlt
theorem Sk.grown {r : Option Nat} (h : Sk k w A xs) (hg : w.grownBy w' r) (hr : ∀ b o, A = some ⟨b, o, none⟩ → some b ≠ r) : Sk k w' A xs := h.same fun b o e hlt => hg.block b hlt (hr b o e)
theorem Sk.nil (k : IntKind) (w : World) (A : Option Addr) : Sk k w A [] := fun j hj => absurd hj (Nat.not_lt_zero j)
theorem Sk.drewN (h : Sk k w A xs) (n : Nat) : Sk k (w.drewN n) A xs := h



theorem gd_take {xs : List Int} {j m : Nat} (h : j < m) : gd (xs.take m) j = gd xs j := by simp [gd, List.getD_eq_getElem?_getD, List.getElem?_take, h]
theorem gd_drop (xs : List Int) (j m : Nat) : gd (xs.drop m) j = gd xs (m + j) := by simp [gd, List.getD_eq_getElem?_getD, List.getElem?_drop]
theorem Sk.drop (h : Sk k w A xs) {m C : Nat} (hC : xs.length ≤ C) : Sk k w (if C = m then A else A.map fun x => x.add m) (xs.drop m) := by
  intro j hj
  rw [List.length_drop] at hj
  obtain ⟨b, o, rfl, hc⟩ := h (m + j) (by omega)
  rw [if_neg (by omega)]
  refine ⟨b, o + m, ?_, ?_⟩
  · simp [Addr.add]
  · rw [gd_drop, Nat.add_assoc]; exact hc
theorem Sk.take (h : Sk k w A xs) (m : Nat) : Sk k w A (xs.take m) := by
  intro j hj
  rw [List.length_take] at hj
  obtain ⟨b, o, rfl, hc⟩ := h j (by omega)
  exact ⟨b, o, rfl, by rw [gd_take (by omega)]; exact hc⟩
/-- The cells behind the address. -/
theorem Sk.cells {ad : Addr} (h : Sk k w (some ad) xs) : ∀ j u, (xs.map (Value.int k))[j]? = some u → w.cell? (ad.add j) = some u := by
  intro j u hu
  rw [List.getElem?_map] at hu
  by_cases hj : j < xs.length
  · obtain ⟨b, o, e, hc⟩ := h j hj
    injection e with e
    subst e
    rw [List.getElem?_eq_getElem hj] at hu
    simp at hu
    subst hu
    rw [gd_at hj] at hc
    rw [show (⟨b, o, none⟩ : Addr).add j = ⟨b, o + j, none⟩ by unfold Addr.add; split <;> simp_all]
    exact hc
  · rw [List.getElem?_eq_none (by omega)] at hu
    cases hu

end

section
variable {k : IntKind} {w w' wr w1 : World} {base B : Nat} {e : TypeId} {v : Value} {n : Nat} {xs : List Int}
theorem form_own {vs : List Value} (h : w.ownsRow base e 1 v n vs) : ∃ A C, v = .slice A n C ∧ n ≤ C ∧ C ≤ maxLen ∧ ∀ j u, vs[j]? = some u → ∃ g, A = some ⟨g, 0, none⟩ ∧ base ≤ g ∧ w.cell? ⟨g, j, none⟩ = some u := by
  rcases h.2 with ⟨rfl, rfl⟩ | ⟨g, cap, cur, rfl, hb, hg, hn, hm, hs, ht⟩
  · have hx : vs = [] := List.eq_nil_of_length_eq_zero (by simpa using h.1)
    subst hx
    exact ⟨none, 0, rfl, Nat.le_refl _, Nat.zero_le _, fun j u hu => by simp at hu⟩
  · refine ⟨some ⟨g, 0, none⟩, cap, rfl, hn, hm, fun j u hu => ⟨g, rfl, hb, ?_⟩⟩
    have hj : j < n * 1 := by
      rw [← h.1]
      exact (List.getElem?_eq_some_iff.1 hu).1
    have h2 : w.ownsRow base e 1 (.slice (some ⟨g, 0, none⟩) n cap) n vs := ⟨h.1, .inr ⟨g, cap, cur, rfl, hb, hg, hn, hm, hs, ht⟩⟩
    rw [World.ownsRow.cellAt h2 j hj]
    exact hu
/-- .. and lies in no elder block. -/
def SkF (base : Nat) (k : IntKind) (w : World) (A : Option Addr) (xs : List Int) : Prop := Sk k w A xs ∧ ∀ ad, A = some ad → base ≤ ad.block
theorem fresh_own {vs : List Value} {A : Option Addr} {C : Nat} (h : w.ownsRow base e 1 (.slice A n C) n vs) : ∀ ad, A = some ad → base ≤ ad.block := by
  intro ad ha
  rcases h.2 with ⟨hv, _⟩ | ⟨g, cap, cur, hv, hb, _⟩
  · injection hv with hv
    rw [hv] at ha; cases ha
  · injection hv with hv
    rw [hv] at ha; injection ha with ha
    subst ha
    exact hb
theorem own_sk (h : w.ownsRow base e 1 v n (xs.map (Value.int k))) : ∃ A C, v = .slice A xs.length C ∧ xs.length ≤ C ∧ C ≤ maxLen ∧ SkF base k w A xs := by
  have hn : n = xs.length := by have := h.1; simp at this; omega
  subst hn
  obtain ⟨A, C, hv, h1, h2, hc⟩ := form_own h
  refine ⟨A, C, hv, h1, h2, fun j hj => ?_, fresh_own (hv ▸ h)⟩
  obtain ⟨g, ha, _, hcell⟩ := hc j (.int k (gd xs j)) (by simp [gd_at hj, hj])
  exact ⟨g, 0, ha, by rw [Nat.zero_add]; exact hcell⟩
theorem own_below {vs : List Value} {size : Nat} (h : w.ownsRow base e size v n vs) (hb : Below w.heap.size w w') : w'.ownsRow base e size v n vs := by
  refine ⟨h.1, ?_⟩
  rcases h.2 with h0 | ⟨g, cap, cur, hv, hbg, hg, h3⟩
  · exact .inl h0
  · refine .inr ⟨g, cap, cur, hv, hbg, ?_, h3⟩
    have : g < w.heap.size := by
      rcases Nat.lt_or_ge g w.heap.size with h' | h'
      · exact h'
      · rw [Array.getElem?_eq_none h'] at hg; cases hg
    rw [hb.block g this]
    exact hg

theorem own_rebase {vs : List Value} {size base' : Nat} (h : w.ownsRow base e size v n vs) (hb : base' ≤ base) : w.ownsRow base' e size v n vs := by
  refine ⟨h.1, ?_⟩
  rcases h.2 with h0 | ⟨g, cap, cur, hv, hbg, h3⟩
  · exact .inl h0
  · exact .inr ⟨g, cap, cur, hv, Nat.le_trans hb hbg, h3⟩
/-- What an append leaves below. -/
theorem app_below {vs : List Value} {size : Nat} (hb : Below B w wr) (hB : B ≤ wr.heap.size) (hown : wr.ownsRow base e size v n vs) (hbase : B ≤ base) (hg : wr.grownBy w1 v.ownBlock) : Below B w w1 :=
  hb.grown hg hB fun j hj => by have := (hown.lt j hj).1; omega
theorem new_k (wr : World) (x : Int) (t : TypeId) (j : Nat) (u : Value) (h : [Value.int k x][j]? = some u) : (wr.alloc (.cells #[.int k x] t)).cell? ((⟨wr.heap.size, 0, none⟩ : Addr).add j) = some u := by
  match j, h with
  | 0, h => simp at h; subst h; simp [Addr.add, go_sem]
theorem one_k {x : Int} : ∀ u ∈ [Value.int k x], u.oneCell' = true := by
  intro u hu
  simp at hu
  subst hu
  rfl



end

section
variable {P : Program} (w : World)

end
end Go.Proofs.Ytgikpcoaennkgaa
