/-
  Plain facts for layer 9: bodies, targets and lines as lists; the first body that blocks; the mediant.
-/
import Derived.Test.YtgikpcoaennkgaaZShpPJ
import Derived.Test.YtgikpcoaennkgaaZShpW
namespace Go.Proofs.Ytgikpcoaennkgaa
open Go.RowKit
open Go.RowKit (Below)
set_option linter.unusedVariables false
set_option linter.unusedSimpArgs false

/-! ### What lies in memory -/
structure Bv where
  A : Option Addr
  C : Nat
  xs : List (Int × Int)
  lo : Int
  hi : Int
/-- Four numbers: a target (its point, its weight), or a line (its target, its body, a part of the way). -/
structure Q4 where
  a : Int
  b : Int
  c : Int
  d : Int
deriving DecidableEq
def gdB (L : List Bv) (k : Nat) : Bv := L.getD k ⟨none, 0, [], 0, 0⟩



/-- A slice of bodies that can be read. -/
def BdS (w : World) (A : Option Addr) (L : List Bv) : Prop :=
  ∀ k, k < L.length → ∃ b o, A = some ⟨b, o, none⟩ ∧ w.cell? ⟨b, o + k * 3, none⟩ = some (.slice (gdB L k).A (gdB L k).xs.length (gdB L k).C) ∧
    w.cell? ⟨b, o + k * 3 + 1, none⟩ = some (.int .i64 (gdB L k).lo) ∧ w.cell? ⟨b, o + k * 3 + 2, none⟩ = some (.int .i64 (gdB L k).hi) ∧
    SlS w (gdB L k).A (gdB L k).xs


theorem cell_low {w w' : World} {a : Addr} {v : Value} (hb : Below w.heap.size w w') (h : w.cell? a = some v) : w'.cell? a = some v := by rw [hb.cell (block_lt h)]; exact h
theorem BdS.below {w w' : World} {A : Option Addr} {L : List Bv} (h : BdS w A L) (hb : Below w.heap.size w w') : BdS w' A L := fun k hk => by
  obtain ⟨b, o, e, h1, h2, h3, h4⟩ := h k hk
  exact ⟨b, o, e, cell_low hb h1, cell_low hb h2, cell_low hb h3, h4.below hb⟩

theorem BdS.nil (w : World) (A : Option Addr) : BdS w A [] := fun k hk => absurd hk (Nat.not_lt_zero k)

theorem BdS.take {w : World} {A : Option Addr} {L : List Bv} (h : BdS w A L) (n : Nat) : BdS w A (L.take n) := fun k hk => by
  rw [List.length_take] at hk
  have e : gdB (L.take n) k = gdB L k := by unfold gdB; rw [List.getD_eq_getElem?_getD, List.getD_eq_getElem?_getD, List.getElem?_take, if_pos (by omega)]
  rw [e]
  exact h k (by omega)

/-! ### What blocks -/
section
variable (ex ey ez x y z : Int)






end
section
variable {ex ey ez x y z : Int} {L : List Bv}








end
















end Go.Proofs.Ytgikpcoaennkgaa
