/-
  slices.ContainsFunc at vectors, and at bodies by a bound method; package sun: directionFor, wayFrom, isBlockedBy, isShaded, isShare.
-/
import Derived.Test.YtgjcmolocoijiaaZSgtZD
import Derived.Test.YtgjcmolocoijiaaZSgtZV
import Derived.Test.YtgjcmolocoijiaaZSgtZE
import Derived.Test.YtgjcmolocoijiaaZSgtZA
import Derived.Deep.QuietTactic
import Derived.BigQuiet
import Derived.BigRegion
import Derived.Test.YtgjcmolocoijiaaZSgtZB
namespace Go.Proofs.Ytgjcmolocoijiaa
open Go.RowKit Go.Sort
open Go.RowKit (Below)
set_option linter.unusedVariables false
set_option linter.unusedSimpArgs false
attribute [local go_sem] Oper.semAt_some









theorem bds_one {W : World} {g : Nat} {b : Bv} (h0 : W.cell? ⟨g, 0, none⟩ = some (.slice b.A b.xs.length b.C)) (h1 : W.cell? ⟨g, 1, none⟩ = some (.int .i64 b.lo)) (h2 : W.cell? ⟨g, 2, none⟩ = some (.int .i64 b.hi)) (hs : SlS W b.A b.xs) : BdS W (some ⟨g, 0, none⟩) [b] := fun k hk => by
  obtain rfl : k = 0 := by simp at hk; exact hk
  exact ⟨g, 0, rfl, h0, h1, h2, hs⟩













end Go.Proofs.Ytgjcmolocoijiaa
