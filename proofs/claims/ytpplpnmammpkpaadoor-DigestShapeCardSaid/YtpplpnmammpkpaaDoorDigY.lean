/-
  Plain facts: one byte changed; a cell of a row that the call has made is stored into.
-/
import Derived.Test.YtpplpnmammpkpaaDoorDigX
namespace Go.Proofs.YtpplpnmammpkpaaDoor
open Go.RowKit Go.Sort
open Go.RowKit (Below)
set_option linter.unusedVariables false

theorem split_at {p : List Int} {j : Nat} (hj : j < p.length) : p = p.take j ++ gd p j :: p.drop (j + 1) := by
  rw [gd_at hj, List.getElem_cons_drop, List.take_append_drop]
theorem set_split {p : List Int} {j : Nat} (v : Int) (hj : j < p.length) : p.set j v = p.take j ++ v :: p.drop (j + 1) := by rw [List.set_eq_take_append_cons_drop, if_pos hj]
theorem dig_set {p : List Int} {j : Nat} {v : Int} (hj : j < p.length) (hp : ∀ x ∈ p, U8 x) (hv : U8 v) (hne : v ≠ gd p j) : dig (p.set j v) ≠ dig p := by
  rw [set_split v hj]
  conv => rhs; rw [split_at hj]
  exact dig_byte (fun b hb => hp b (List.mem_of_mem_drop hb)) hv (hp _ (getD_mem hj)) hne
theorem xor_byte {x y : Int} (hx : U8 x) (hy : U8 y) (h0 : y ≠ 0) : U8 (bits .xor .u8 x y) ∧ bits .xor .u8 x y ≠ x := by
  obtain ⟨X, rfl⟩ := Int.eq_ofNat_of_zero_le hx.1
  obtain ⟨Y, rfl⟩ := Int.eq_ofNat_of_zero_le hy.1
  have h1 : X < 256 := by have := hx.2; omega
  have h2 : Y < 256 := by have := hy.2; omega
  have h3 : X ^^^ Y < 256 := Nat.xor_lt_two_pow (n := 8) h1 h2
  rw [u8_xor_nat X Y h1 h2]
  refine ⟨⟨by omega, by omega⟩, fun e => h0 ?_⟩
  have e' : X ^^^ Y = X ^^^ 0 := by rw [Nat.xor_zero]; omega
  rw [xor_cancel_left e']
  rfl
/-- A row of the call's own, not empty. -/
theorem own_row {k : IntKind} {w : World} {base : Nat} {e : TypeId} {v : Value} {n : Nat} {xs : List Int} (h : w.ownsRow base e 1 v n (xs.map (Value.int k))) (hp : 0 < xs.length) :
    ∃ g C, v = .slice (some ⟨g, 0, none⟩) xs.length C ∧ base ≤ g ∧ g < w.heap.size ∧ Sk k w (some ⟨g, 0, none⟩) xs ∧ ∀ j, w.frozen? ⟨g, j, none⟩ = false := by
  have hn : n = xs.length := by have := h.1; simp at this; omega
  subst hn
  obtain ⟨g, C, rfl, hb, hg⟩ := h.form hp
  refine ⟨g, C, rfl, hb, hg, ?_, fun j => World.ownsRow.frozenAt h j⟩
  obtain ⟨A', C', hv, _, _, hs, _⟩ := own_sk h
  injection hv with e1 e2 e3
  subst e1
  exact hs
theorem sk_set {k : IntKind} {w : World} {g j : Nat} {xs : List Int} {v : Int} (h : Sk k w (some ⟨g, 0, none⟩) xs) (hj : j < xs.length) : Sk k (w.setCell ⟨g, j, none⟩ (.int k v)) (some ⟨g, 0, none⟩) (xs.set j v) := by
  intro i hi
  rw [List.length_set] at hi
  refine ⟨g, 0, rfl, ?_⟩
  have hc := sk_here h hi
  rw [Nat.zero_add] at hc ⊢
  by_cases e : i = j
  · subst e
    have h1 : gd (xs.set i v) i = v := by simp [gd, List.getD_eq_getElem?_getD, hi]
    rw [h1]
    simp [go_sem, hc]
  · have h1 : gd (xs.set j v) i = gd xs i := by simp [gd, List.getD_eq_getElem?_getD, Ne.symm e]
    rw [h1, World.cell?_setCell_other w ⟨g, j, none⟩ ⟨g, i, none⟩ _ (by intro e'; injection e' with _ e2; first | exact e e2 | exact e e2.symm)]
    exact hc
theorem setCell_size (w : World) (a : Addr) (v : Value) : (w.setCell a v).heap.size = w.heap.size := by simp
end Go.Proofs.YtpplpnmammpkpaaDoor
