/-
  Plain facts for layer 8, no function of the program: bodies as lists of corners; turned, turned round, without a corner, moved; apart.
-/
import Derived.Test.YtgikpcoaennkgaaZShpB
namespace Go.Proofs.Ytgikpcoaennkgaa
set_option linter.unusedVariables false
set_option linter.unusedSimpArgs false

def px (L : List (Int × Int)) (i : Nat) : Int := (L.getD i (0, 0)).1
def py (L : List (Int × Int)) (i : Nat) : Int := (L.getD i (0, 0)).2
/-- A valid body. -/
structure Bok (L : List (Int × Int)) (lo hi : Int) : Prop where
  n3 : 3 ≤ L.length
  n8 : L.length ≤ 8
  rx : ∀ i, i < L.length → co (px L i)
  ry : ∀ i, i < L.length → co (py L i)
  zl : co lo
  zh : co hi
  lt : lo < hi
  first : ∀ i, 0 < i → i < L.length → px L 0 < px L i ∨ (px L 0 = px L i ∧ py L 0 < py L i)
  cvx : Cvx L.length (px L) (py L)
/-- A point strictly inside a body. -/
def InB (L : List (Int × Int)) (lo hi u v z : Int) : Prop := Ins L.length (px L) (py L) u v ∧ lo < z ∧ z < hi



















/-! ### Apart -/
def Par (A B : List (Int × Int)) : Prop := ∃ i, i < A.length ∧ ∀ j, j < B.length → crs (px A i) (py A i) (px A (nx A.length i)) (py A (nx A.length i)) (px B j) (py B j) ≤ 0
def Apa (A : List (Int × Int)) (la ha : Int) (B : List (Int × Int)) (lb hb : Int) : Prop := ha ≤ lb ∨ hb ≤ la ∨ Par A B ∨ Par B A



















end Go.Proofs.Ytgikpcoaennkgaa
