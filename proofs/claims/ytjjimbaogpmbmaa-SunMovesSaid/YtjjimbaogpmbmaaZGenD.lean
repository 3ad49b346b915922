/-
  Plain tools, no function of the program: slices of numbers of any kind; rows that a call has made; an append of whatever can be read.
-/
import Derived.Test.YtjjimbaogpmbmaaZGenA
import Derived.Maps.AppendAt
import Derived.Deep.AppendLies
import Derived.Lib.AppendStr
import Derived.Laws.CopyOwn
namespace Go.Proofs.Ytjjimbaogpmbmaa
open Go.RowKit Go.Sort
open Go.RowKit (Below)
section
variable {k : IntKind} {w w' : World} {A : Option Addr} {xs ys : List Int}
end

section
variable {k : IntKind} {w w' wr w1 : World} {base B : Nat} {e : TypeId} {v : Value} {n : Nat} {xs : List Int}
/-- What an append leaves below. -/
theorem app_below {vs : List Value} {size : Nat} (hb : Below B w wr) (hB : B ≤ wr.heap.size) (hown : wr.ownsRow base e size v n vs) (hbase : B ≤ base) (hg : wr.grownBy w1 v.ownBlock) : Below B w w1 :=
  hb.grown hg hB fun j hj => by have := (hown.lt j hj).1; omega
end
section
variable {P : Program} (w : World)
end
end Go.Proofs.Ytjjimbaogpmbmaa
