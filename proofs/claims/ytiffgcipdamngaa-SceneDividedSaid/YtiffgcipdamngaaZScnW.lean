/-
  Cut, with what its slice can hold; pieces of slices.
-/
import Derived.Test.YtiffgcipdamngaaZScnZX
import Derived.Test.YtiffgcipdamngaaZGenE
namespace Go.Proofs.Ytiffgcipdamngaa
open Go.RowKit Go.Sort
open Go.RowKit (Below)
set_option linter.unusedVariables false
set_option linter.unusedSimpArgs false
attribute [local go_sem] Oper.semAt_some

/-- The slice's address behind k bodies. -/
def adr (A : Option Addr) (C k n : Nat) : Option Addr := if C - k = 0 then A else A.map fun x => x.add (k * n)
theorem BdS.drop {w : World} {A : Option Addr} {L : List Bv} (h : BdS w A L) (k C : Nat) (hC : L.length ≤ C) : BdS w (adr A C k 3) (L.drop k) := fun j hj => by
  rw [List.length_drop] at hj
  obtain ⟨b, o, rfl, h1, h2, h3, h4⟩ := h (k + j) (by omega)
  have e : gdB (L.drop k) j = gdB L (k + j) := by unfold gdB; rw [List.getD_eq_getElem?_getD, List.getD_eq_getElem?_getD, List.getElem?_drop]
  have e2 : o + (k + j) * 3 = o + k * 3 + j * 3 := by omega
  rw [e2] at h1 h2 h3
  unfold adr
  rw [if_neg (by omega), e]
  refine ⟨b, o + k * 3, ?_, h1, h2, h3, h4⟩
  by_cases h0 : k * 3 = 0
  · simp [Addr.add, h0]
  · simp [Addr.add, h0]
end Go.Proofs.Ytiffgcipdamngaa
