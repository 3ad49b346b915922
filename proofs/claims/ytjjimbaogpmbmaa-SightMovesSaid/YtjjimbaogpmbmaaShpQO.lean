/-
  The reference: Move.
-/
import Derived.Test.YtjjimbaogpmbmaaShpG
import Derived.Test.YtjjimbaogpmbmaaShpPO
import Derived.Test.YtjjimbaogpmbmaaShpPH
import Derived.Test.YtjjimbaogpmbmaaShpY
import Derived.Deep.AppendLies
import Derived.Laws.OwnMore
namespace Go.Proofs.Ytjjimbaogpmbmaa
open Go.RowKit Go.Sort
open Go.RowKit (Below)
theorem info_parts2 {x : Option TypeInfo} {z : Option Value} {s b : Nat} (h : x.map (fun i => (i.zero, i.size, i.bytes)) = some (z, s, b)) : ∃ i, x = some i ∧ i.zero = z ∧ i.size = s ∧ i.bytes = b := by
  cases x with
  | none => cases h
  | some i => simp at h; exact ⟨i, rfl, h.1, h.2.1, h.2.2⟩
theorem undrew2 {w w' : World} {r : Option Nat} (h : w.drew.grownBy w' r) : w.grownBy w' r := (grown_drew w |>.but r).trans h
theorem grown_at (w : World) (g k : Nat) (v : Value) : w.grownBy (w.setCell ⟨g, k, none⟩ v) (some g) :=
  ⟨rfl, rfl, rfl, by simp, fun b _ hne => Below.heap_setCell w _ v b (by rintro rfl; exact hne rfl)⟩
theorem flat_snoc2 (xs : List (Int × Int)) (x y : Int) : flatV xs ++ [.int .i64 x, .int .i64 y] = flatV (xs ++ [(x, y)]) := by simp [flatV]
structure Bk (W : World) (g : Nat) (o : Obj) : Prop where
  h : W.heap[g]? = some o
theorem Bk.below {W W' : World} {g : Nat} {o : Obj} (h : Bk W g o) (hb : Below W.heap.size W W') : Bk W' g o := ⟨blk_on h.h hb⟩
theorem take_mv {xs : List (Int × Int)} {x y : Int} {k : Nat} (h : k < xs.length) : (mv xs x y).take (k + 1) = (mv xs x y).take k ++ [((gdS xs k).1 + x, (gdS xs k).2 + y)] := by
  rw [List.take_succ_eq_append_getElem (by rw [mv_len]; exact h), gdS_at h]
  simp [mv]
theorem capk {k : Nat} (h : k + 1 ≤ 8) : k + 1 ≤ maxLen ∧ (k + 1) * 16 ≤ 140737488355328 := by unfold maxLen; omega
theorem sls_of_own {W : World} {B n C g : Nat} {e : TypeId} {xs : List (Int × Int)} (h : W.ownsRow B e 2 (.slice (some ⟨g, 0, none⟩) n C) n (flatV xs)) : SlS W (some ⟨g, 0, none⟩) xs := by
  obtain ⟨A, C', e1, _, _, hs⟩ := own_slS h
  have : some (⟨g, 0, none⟩ : Addr) = A := by injection e1
  rw [this]; exact hs
theorem cell_far_set {W : World} {j i go : Nat} {u v : Value} (hne : j ≠ go) (h : W.cell? ⟨j, i, none⟩ = some v) : (W.setCell ⟨go, 0, none⟩ u).cell? ⟨j, i, none⟩ = some v := by
  rw [World.cell?_of_block (a := ⟨j, i, none⟩) (Below.heap_setCell W ⟨go, 0, none⟩ u j hne)]; exact h
/-- The reference's Move between two corners: g + 1: by; g + 2: the results; go: the body that grows. -/
structure Qo (g go B b0 o0 C : Nat) (xs : List (Int × Int)) (lo hi x y z l h : Int) (w0 : World) (k : Nat) (A' : Option Addr) (C' : Nat) (W : World) : Prop where
  row : W.ownsRow B 54 2 (.slice A' k C') k (flatV ((mv xs x y).take k))
  out : W.heap[go]? = some (.cells #[.slice A' k C', .int .i64 l, .int .i64 h] 42 (0, 0))
  p : W.heap[g]? = some (.cells #[.slice (some ⟨b0, o0, none⟩) xs.length C, .int .i64 lo, .int .i64 hi] 42 (0, 0))
  q : W.heap[g + 1]? = some (.cells #[.int .i64 x, .int .i64 y, .int .i64 z] 27 (0, 0))
  u : W.heap[g + 1 + 1]? = some (.cells #[.slice none 0 0, .int .i64 0, .int .i64 0] 42 (0, 0))
  sl : SlS W (some ⟨b0, o0, none⟩) xs
  bel : Below w0.heap.size w0 W
section
variable {g go B b0 o0 C k C' : Nat} {xs : List (Int × Int)} {lo hi x y z l h : Int} {w0 W W5 : World} {A' : Option Addr}
theorem Qo.step (m : Qo g go B b0 o0 C xs lo hi x y z l h w0 k A' C' W) (h0 : w0.heap.size ≤ go) (h1 : go < B) (h2 : g + 1 + 1 < go) (h3 : b0 < go) (hW : B ≤ W.heap.size) {gg cap : Nat} (hg : W.grownBy W5 (Value.slice A' k C').ownBlock)
    (hown : W5.ownsRow B 54 2 (.slice (some ⟨gg, 0, none⟩) (k + 1) cap) (k + 1) (flatV ((mv xs x y).take (k + 1)))) :
    Qo g go B b0 o0 C xs lo hi x y z l h w0 (k + 1) (some ⟨gg, 0, none⟩) cap (W5.setCell ⟨go, 0, none⟩ (.slice (some ⟨gg, 0, none⟩) (k + 1) cap)) := by
  have hr : ∀ j, j < B → some j ≠ (Value.slice A' k C').ownBlock := fun j hj e => by have := (m.row.lt j e.symm).1; omega
  have h5 : ∀ j, j < B → W5.heap[j]? = W.heap[j]? := fun j hj => hg.block j (by omega) (hr j hj)
  have hgg : B ≤ gg := (hown.lt gg rfl).1
  have keep : ∀ {j : Nat} {o : Obj}, j < B → j ≠ go → W.heap[j]? = some o → (W5.setCell ⟨go, 0, none⟩ (.slice (some ⟨gg, 0, none⟩) (k + 1) cap)).heap[j]? = some o := fun hj hne ho => blk_far (by rw [h5 _ hj]; exact ho) hne
  refine ⟨hown.kept (grown_at W5 go 0 _) (Or.inr (by simp [Value.ownBlock]; omega)), set_cells (by rw [h5 go h1]; exact m.out) 0 _, keep (by omega) (by omega) m.p, keep (by omega) (by omega) m.q, keep (by omega) (by omega) m.u, ?_, ?_⟩
  · refine m.sl.same fun b o e hlt => ?_
    obtain ⟨rfl, rfl⟩ : b0 = b ∧ o0 = o := by simpa using e
    have hne : b0 ≠ go := by omega
    rw [Below.heap_setCell W5 ⟨go, 0, none⟩ _ b0 hne, h5 b0 (by omega)]
  · exact (m.bel.grown hg m.bel.size (fun j e => by have := (m.row.lt j e).1; omega)).setCell h0 _
end
end Go.Proofs.Ytjjimbaogpmbmaa
