/-
  Out of the texts of layer 7: package vector's Add, the reference's Valid.
-/
import Derived.Test.YtiffgcipdamngaaZSgtZD
import Derived.LoopN
import Derived.Deep.RegionWith
import Derived.Deep.RegionHeld3
import Derived.Deep.DeepCutAuto
namespace Go.Proofs.Ytiffgcipdamngaa
open Go.RowKit Go.Sort
open Go.RowKit (Below)

/-- The two arrays, made anew. -/
structure Two (V W : World) (g h : Nat) (a b c x y z : Int) : Prop where
  bel : Below V.heap.size V W
  ne : g ≠ h
  hg : V.heap.size ≤ g
  hh : V.heap.size ≤ h
  g0 : W.cell? ⟨g, 0, none⟩ = some (.int .i64 a)
  g1 : W.cell? ⟨g, 1, none⟩ = some (.int .i64 b)
  g2 : W.cell? ⟨g, 2, none⟩ = some (.int .i64 c)
  f0 : W.frozen? ⟨g, 0, none⟩ = false
  f1 : W.frozen? ⟨g, 1, none⟩ = false
  f2 : W.frozen? ⟨g, 2, none⟩ = false
  h0 : W.cell? ⟨h, 0, none⟩ = some (.int .i64 x)
  h1 : W.cell? ⟨h, 1, none⟩ = some (.int .i64 y)
  h2 : W.cell? ⟨h, 2, none⟩ = some (.int .i64 z)
end Go.Proofs.Ytiffgcipdamngaa
