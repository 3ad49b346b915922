/-
  The reference of package money: Split, for all ints and lists.
-/
import Derived.Test.YtanncjkkaeeiaaaGreatDoorMonI
import Derived.Test.YtanncjkkaeeiaaaGreatDoorMonN
import Derived.Deep.LoopGhost
namespace Go.Proofs.YtanncjkkaeeiaaaGreatDoor
open Go.RowKit Go.Sort
open Go.RowKit (Below)
set_option linter.unusedVariables false

section
variable (c : Int) (ws : List Int)
/-- What the first loop has laid after k rounds. -/
structure R1 (w : World) (pb rb k : Nat) (wr : World) : Prop where
  p : Row wr pb ws.length (fun j => if j < k then c.natAbs * gd ws j / ws.sum else 0)
  r : Row wr rb ws.length (fun j => if j < k then c.natAbs * gd ws j % ws.sum else 0)
  bl : Below w.heap.size w wr
  ne : w.heap.size ≤ pb ∧ pb < rb ∧ rb < wr.heap.size
/-- What the second loop has laid after j rounds. -/
structure R2 (w : World) (pb rb j : Nat) (wr : World) : Prop where
  p : Row wr pb ws.length (fun i => c.natAbs * gd ws i / ws.sum + up (rests c.natAbs ws.sum ws) (j : Nat) i)
  r : Row wr rb ws.length (fun i => rem (rests c.natAbs ws.sum ws) j i)
  bl : Below w.heap.size w wr
  ne : w.heap.size ≤ pb ∧ pb < rb ∧ rb < wr.heap.size
end

theorem Sl.here {w : World} {b o : Nat} {xs : List Int} (h : Sl w (some ⟨b, o, none⟩) xs) {k : Nat} (hk : k < xs.length) : w.cell? ⟨b, o + k, none⟩ = some (.int .i64 (gd xs k)) := by
  obtain ⟨b', o', e, hc⟩ := h k hk
  injection e with e
  injection e with e1 e2
  subst e1 e2
  exact hc
theorem R1.start {c : Int} {ws : List Int} {w w1 w2 : World} {e : TypeId} (hn : 1 ≤ ws.length) (own1 : w1.ownsRow 0 e 1 (.slice (some ⟨w.heap.size, 0, none⟩) ws.length ws.length) ws.length (madeCells (Value.int .i64 0).cells (ws.length * 1)).toList) (gr1 : w.grownBy w1 none)
    (own2 : w2.ownsRow 0 e 1 (.slice (some ⟨w1.heap.size, 0, none⟩) ws.length ws.length) ws.length (madeCells (Value.int .i64 0).cells (ws.length * 1)).toList) (gr2 : w1.grownBy w2 none) : R1 c ws w w.heap.size w1.heap.size 0 w2 := by
  have b1 := own_lt own1 (by omega)
  have b2 := own_lt own2 (by omega)
  refine ⟨((row_made own1).grown gr2 b1).congr fun j _ => by simp, (row_made own2).congr fun j _ => by simp, ?_, Nat.le_refl _, b1, b2⟩
  exact below_made (below_made (Below.refl _ _) gr1 (Nat.le_refl _)) gr2 (by omega)

theorem R1.step {c : Int} {ws : List Int} {w wr : World} {pb rb k : Nat} (h : R1 c ws w pb rb k wr) (hk : k < ws.length) {v : Int} (hv : (c.natAbs : Int) * gd ws k = v) :
    R1 c ws w pb rb (k + 1) ((wr.setCell ⟨pb, k, none⟩ (.int .i64 (v / ws.sum))).setCell ⟨rb, k, none⟩ (.int .i64 (v % ws.sum))) := by
  obtain ⟨n1, n2, n3⟩ := h.ne
  refine ⟨?_, ?_, ?_, n1, n2, by simpa using n3⟩
  · refine (h.p.set' hk (g := fun j => if j < k + 1 then c.natAbs * gd ws j / ws.sum else 0) fun j hj => ?_).far (p := ⟨rb, k, none⟩) (by show pb ≠ rb; omega) _
    by_cases e : j = k
    · subst e; rw [if_pos rfl, if_pos (by omega), hv]
    · rw [if_neg e]
      by_cases e2 : j < k
      · rw [if_pos e2, if_pos (by omega)]
      · rw [if_neg e2, if_neg (by omega)]
  · refine (h.r.far (p := ⟨pb, k, none⟩) (by show rb ≠ pb; omega) _).set' hk (g := fun j => if j < k + 1 then c.natAbs * gd ws j % ws.sum else 0) fun j hj => ?_
    by_cases e : j = k
    · subst e; rw [if_pos rfl, if_pos (by omega), hv]
    · rw [if_neg e]
      by_cases e2 : j < k
      · rw [if_pos e2, if_pos (by omega)]
      · rw [if_neg e2, if_neg (by omega)]
  · exact (h.bl.setCell (p := ⟨pb, k, none⟩) n1 _).setCell (p := ⟨rb, k, none⟩) (by show _ ≤ rb; omega) _

theorem R2.start {c : Int} {ws : List Int} {w wr : World} {pb rb k : Nat} (h : R1 c ws w pb rb k wr) (hk : ¬ k < ws.length) : R2 c ws w pb rb 0 wr := by
  refine ⟨h.p.congr fun j hj => ?_, h.r.congr fun j hj => ?_, h.bl, h.ne⟩
  · rw [if_pos (by omega), up, if_neg (by omega)]; omega
  · rw [if_pos (by omega), rem, if_neg (by omega)]
    exact (rests_at _ _ _ hj).symm ▸ by rw [gd_at hj]

theorem R2.drewN {c : Int} {ws : List Int} {w wr : World} {pb rb j : Nat} (h : R2 c ws w pb rb j wr) (n : Nat) : R2 c ws w pb rb j (wr.drewN n) := ⟨h.p, h.r, below_drewN' h.bl n, h.ne⟩

theorem R2.step {c : Int} {ws : List Int} {w wr : World} {pb rb j b : Nat} (h : R2 c ws w pb rb j wr) (hb : b < ws.length) (hr : rk (rests c.natAbs ws.sum ws) b = j) {v : Int} (hv : v = c.natAbs * gd ws b / ws.sum + up (rests c.natAbs ws.sum ws) (j : Nat) b + 1) :
    R2 c ws w pb rb (j + 1) ((wr.setCell ⟨pb, b, none⟩ (.int .i64 v)).setCell ⟨rb, b, none⟩ (.int .i64 (-1))) := by
  obtain ⟨n1, n2, n3⟩ := h.ne
  have hbl : b < (rests c.natAbs ws.sum ws).length := by rw [rests_len]; exact hb
  refine ⟨?_, ?_, ?_, n1, n2, by simpa using n3⟩
  · refine (h.p.set' hb fun i hi => ?_).far (p := ⟨rb, b, none⟩) (by show pb ≠ rb; omega) _
    have := up_next hbl hr (k := i) (by rw [rests_len]; exact hi) (c.natAbs * gd ws i / ws.sum)
    rw [← this]
    by_cases e : i = b
    · subst e; rw [if_pos rfl, if_pos rfl, hv]
    · rw [if_neg e, if_neg e]
  · refine (h.r.far (p := ⟨pb, b, none⟩) (by show rb ≠ pb; omega) _).set' hb fun i hi => ?_
    exact rem_next hbl hr (by rw [rests_len]; exact hi)
  · exact (h.bl.setCell (p := ⟨pb, b, none⟩) n1 _).setCell (p := ⟨rb, b, none⟩) (by show _ ≤ rb; omega) _

/-- The first of the greatest among the first k. -/
def Fst (rs : List Int) (j b k : Nat) : Prop := (∀ i, i < k → rem rs j i ≤ rem rs j b) ∧ ∀ i, i < b → rem rs j i < rem rs j b
theorem Fst.one (rs : List Int) (j : Nat) : Fst rs j 0 1 := ⟨fun i hi => by rw [show i = 0 by omega]; exact Int.le_refl _, fun i hi => absurd hi (Nat.not_lt_zero i)⟩
theorem Fst.keep {rs : List Int} {j b k : Nat} (h : Fst rs j b k) (hk : rem rs j k ≤ rem rs j b) : Fst rs j b (k + 1) :=
  ⟨fun i hi => by
    by_cases e : i = k
    · subst e; exact hk
    · exact h.1 i (by omega), h.2⟩
theorem Fst.take {rs : List Int} {j b k : Nat} (h : Fst rs j b k) (hk : rem rs j b < rem rs j k) : Fst rs j k (k + 1) :=
  ⟨fun i hi => by
    by_cases e : i = k
    · subst e; exact Int.le_refl _
    · have := h.1 i (by omega); omega, fun i hi => by have := h.1 i hi; omega⟩
theorem rem_bd {c : Int} {ws : List Int} (hW : 0 < ws.sum) (hW2 : ws.sum ≤ 64000000) (j : Nat) {i : Nat} (hi : i < ws.length) : -1 ≤ rem (rests c.natAbs ws.sum ws) j i ∧ rem (rests c.natAbs ws.sum ws) j i ≤ 64000000 := by
  unfold rem
  split
  · omega
  · rw [rests_at _ _ _ hi]
    have h1 := Int.emod_nonneg (c.natAbs * ws[i]) (show ws.sum ≠ 0 by omega)
    have h2 := Int.emod_lt_of_pos (c.natAbs * ws[i]) hW
    omega
theorem rests_nn {c : Int} {ws : List Int} (hW : 0 < ws.sum) : ∀ i, i < (rests c.natAbs ws.sum ws).length → 0 ≤ (rests c.natAbs ws.sum ws).getD i 0 := by
  intro i hi
  rw [rests_len] at hi
  rw [rests_at _ _ _ hi]
  exact Int.emod_nonneg _ (by omega)
end Go.Proofs.YtanncjkkaeeiaaaGreatDoor
