/-
  The laws' along.
-/
import Derived.Test.YtjjimbaogpmbmaaShpL
namespace Go.Proofs.Ytjjimbaogpmbmaa
open Go.RowKit Go.Sort
open Go.RowKit (Below)
end Go.Proofs.Ytjjimbaogpmbmaa
