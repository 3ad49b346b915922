/-
  Plain tools, no function of the program: slices of numbers of any kind; rows that a call has made; an append of whatever can be read.
-/
import Derived.Test.YtiffgcipdamngaaZGenA
import Derived.Maps.AppendAt
import Derived.Deep.AppendLies
import Derived.Lib.AppendStr
import Derived.Laws.CopyOwn
namespace Go.Proofs.Ytiffgcipdamngaa
open Go.RowKit Go.Sort
open Go.RowKit (Below)
set_option linter.unusedVariables false
set_option linter.unusedSimpArgs false
section
variable {k : IntKind} {w w' : World} {A : Option Addr} {xs ys : List Int}














end

section
variable {k : IntKind} {w w' wr w1 : World} {base B : Nat} {e : TypeId} {v : Value} {n : Nat} {xs : List Int}




theorem own_below {vs : List Value} {size : Nat} (h : w.ownsRow base e size v n vs) (hb : Below w.heap.size w w') : w'.ownsRow base e size v n vs := by
  refine ⟨h.1, ?_⟩
  rcases h.2 with h0 | ⟨g, cap, cur, hv, hbg, hg, h3⟩
  · exact .inl h0
  · refine .inr ⟨g, cap, cur, hv, hbg, ?_, h3⟩
    have : g < w.heap.size := by
      rcases Nat.lt_or_ge g w.heap.size with h' | h'
      · exact h'
      · rw [Array.getElem?_eq_none h'] at hg; cases hg
    rw [hb.block g this]
    exact hg


/-- What an append leaves below. -/
theorem app_below {vs : List Value} {size : Nat} (hb : Below B w wr) (hB : B ≤ wr.heap.size) (hown : wr.ownsRow base e size v n vs) (hbase : B ≤ base) (hg : wr.grownBy w1 v.ownBlock) : Below B w w1 :=
  hb.grown hg hB fun j hj => by have := (hown.lt j hj).1; omega





end

section
variable {P : Program} (w : World)

end
end Go.Proofs.Ytiffgcipdamngaa
