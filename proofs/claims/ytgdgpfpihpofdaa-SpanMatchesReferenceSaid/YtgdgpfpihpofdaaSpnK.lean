/-
  slices.Grow of no spans, slices.Concat of two lists of spans.
-/
import Derived.Test.YtgdgpfpihpofdaaSpnJ
import Derived.Laws.AppendOwnNone
import Derived.Shelf.Spec.SlicesGrow
namespace Go.Proofs.Ytgdgpfpihpofdaa
open Go.RowKit Go.Sort
open Go.RowKit (Below)
open Go.Shelf
set_option linter.unusedVariables false

def growRen : Ren := ⟨fun | 4 => 48 | n => n, fun | 0 => 0 | 3 => 3 | 4 => 4 | 9 => 9 | 20 => 20 | 22 => 22 | 25 => 39 | n => n, fun | n => n⟩
theorem growLays : Lays8.n4 Try.prog growRen := {
  mixed := by kernel_rfl
  f4 := ⟨"slices.Grow[[]barcarole/api.Span,barcarole/api.Span]", by decide, Try.func48.trans (congrArg some (by kernel_rfl))⟩
  t0 := Try.underlying0
  a0 := Try.isAgg0
  z0 := Try.sizeOf0
  v0 := Try.zeroValue0
  t3 := Try.underlying3
  a3 := Try.isAgg3
  z3 := Try.sizeOf3
  v3 := Try.zeroValue3
  t4 := Try.underlying4
  a4 := Try.isAgg4
  z4 := Try.sizeOf4
  v4 := Try.zeroValue4
  t9 := Try.underlying9
  a9 := Try.isAgg9
  z9 := Try.sizeOf9
  v9 := Try.zeroValue9
  t20 := Try.underlying20
  a20 := Try.isAgg20
  z20 := Try.sizeOf20
  v20 := Try.zeroValue20
  t22 := Try.underlying22
  a22 := Try.isAgg22
  z22 := Try.sizeOf22
  v22 := Try.zeroValue22 }

/-- slices.Grow(nil, n): nothing, with room. -/
theorem grow_any (n : Nat) (w : World) (hn : n ≤ 100000) :
    Calls Try.prog 48 #[.slice none 0 0, .int .i64 n] w fun e w' => ∃ v, e = .returned v ∧ w'.ownsRow w.heap.size 39 2 v 0 [] ∧ Below w.heap.size w w' := by
  obtain ⟨i0, hi0, hz0, hz1, hz2⟩ := info_parts (show (Try.prog.info? 39).map (fun i => (i.zero, i.size, i.bytes)) = some (some (.agg #[.int .i64 0, .int .i64 0]), 2, 16) by kernel_rfl)
  by_cases h : n = 0
  · subst h
    exact (Any8.slices_Grow_room growLays none 0 0 0 w (Nat.le_refl _) (by omega) (by omega) (by omega)).mono fun e w' ⟨he, hw⟩ => ⟨_, he, by subst hw; exact World.ownsRow_nil _ _ _ _, by subst hw; exact Below.refl _ _⟩
  · refine (Any8.slices_Grow_grow growLays i0 (.agg #[.int .i64 0, .int .i64 0]) hi0 hz0 (by omega) none 0 0 n [] w (Nat.le_refl _) (by omega) (by rw [hz2]; omega) (by omega) (by simp) (fun _ => rfl) (fun a e => by cases e)).mono fun e w' ⟨he, hw⟩ => ⟨_, he, ?_, ?_⟩
    · have h1 := grownCap_ge w (0 + n) 0 (growRen.t 25)
      have h2 := grownCap_le_maxLen w (0 + n) 0 (growRen.t 25) (by unfold maxLen; omega)
      subst hw
      generalize grownCap w (0 + n) 0 (growRen.t 25) = G at *
      refine ⟨by simp, .inr ⟨_, _, _, rfl, Nat.le_refl _, World.alloc_heap_new _ _, Nat.zero_le _, h2, ?_, by simp⟩⟩
      simp only [Array.size_append, size_zeroCells]
      have h3 : (Value.agg #[.int .i64 0, .int .i64 0]).cells.size = 2 := rfl
      rw [h3]
      simp
      omega
    · subst hw
      exact ((Below.refl _ _).drew).alloc (Nat.le_refl _) _
end Go.Proofs.Ytgdgpfpihpofdaa
