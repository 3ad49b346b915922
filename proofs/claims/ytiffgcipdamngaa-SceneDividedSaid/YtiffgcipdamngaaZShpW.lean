/-
  Slices of points and bodies that come in.
-/
import Derived.Test.YtiffgcipdamngaaZGenP
import Derived.Test.YtiffgcipdamngaaZShpC
import Derived.Deep.SlicePairs
import Derived.Lib.SmallJoins
import Derived.ProofKit
import Derived.OpenShut
namespace Go.Proofs.Ytiffgcipdamngaa
open Go.ChangeShapes Go.WideShapes Go.ChangeAt Go.RowKit Go.Joins Go.Deep
open Go.RowKit (Below)
set_option linter.unusedVariables false
set_option linter.unusedSimpArgs false

/-- A slice of points that can be read. -/
structure Lp (w : World) (A : Option Addr) (C : Nat) (xs : List (Int × Int)) : Prop where
  sl : SlS w A xs
  cap : xs.length ≤ C ∧ C ≤ 9223372036854775807
  nil : A = none → C = 0
theorem Lp.below {w w' : World} {A : Option Addr} {C : Nat} {xs : List (Int × Int)} (h : Lp w A C xs) (hb : Below w.heap.size w w') : Lp w' A C xs := ⟨h.sl.below hb, h.cap, h.nil⟩
theorem Lp.take {w : World} {A : Option Addr} {C : Nat} {xs : List (Int × Int)} (h : Lp w A C xs) (k : Nat) : Lp w A C (xs.take k) := by
  refine ⟨fun i hi => ?_, ⟨Nat.le_trans (by rw [List.length_take]; omega) h.cap.1, h.cap.2⟩, h.nil⟩
  rw [List.length_take] at hi
  obtain ⟨b, o, e, c, d⟩ := h.sl i (by omega)
  have g : gdS (xs.take k) i = gdS xs i := by
    unfold gdS
    rw [List.getD_eq_getElem?_getD, List.getD_eq_getElem?_getD, List.getElem?_take, if_pos (by omega)]
  rw [g]
  exact ⟨b, o, e, c, d⟩
theorem add_plain (b o i : Nat) : (⟨b, o, none⟩ : Addr).add i = ⟨b, o + i, none⟩ := by unfold Addr.add; split <;> simp_all
theorem cellsInt : Try.prog.cellsOf 3 = 1 := by kernel_rfl
theorem pointFields : ∃ f0 f1 : Field, Try.prog.underlying 43 = some (.struct #[f0, f1]) ∧ f0.offset = 0 ∧ f1.offset = 1 ∧ f0.type = 3 ∧ f1.type = 3 := ⟨_, _, Try.underlying43, rfl, rfl, rfl, rfl⟩
theorem cellsPoint : Try.prog.cellsOf 43 = 2 := by kernel_rfl
theorem int_back {H : Type} {enc : TypeId × Value → H} {W W' : World} {sp sp' : Nat → Bool} {n : Nat} {v : Value} {x : DataW H × List MemPlace} (h : DataW.trod enc Try.prog W 0 sp true n 3 [v] = some x) :
    ∃ a : Int, v = .int .i64 a ∧ x = (.lit (.int .i64 a), []) ∧ (Lit.int .i64 a).wf = true ∧ ∃ n, DataW.trod enc Try.prog W' 0 sp' true n 3 [v] = some x := by
  obtain ⟨a, e0, rfl, wa⟩ := DataW.trod_int Try.underlying3 h
  simp at e0
  subst e0
  exact ⟨a, rfl, rfl, wa, 1, by simp [DataW.trod, Try.underlying3, wa]⟩

set_option maxRecDepth 100000 in
set_option maxHeartbeats 800000 in
/-- What a slice of points that comes in gives, and that it reads as it did behind a call that makes memory alone. -/
theorem open_pts {H : Type} {enc : TypeId × Value → H} {W : World} {fuel : Nat} {v : Value} {x : DataW H × List MemPlace} (hf : DataW.trod enc Try.prog W 0 (fun _ => true) true fuel 44 [v] = some x) :
    ∃ (A : Option Addr) (cap : Nat) (xs : List (Int × Int)), v = .slice A xs.length cap ∧ Lp W A cap xs ∧ (∀ s ∈ xs, I64 s.1 ∧ I64 s.2) ∧
      ∀ (W' : World) (sp : Nat → Bool), Below W.heap.size W W' → (∀ q ∈ x.2, sp q.block = true) → ∃ n, DataW.trod enc Try.prog W' 0 sp true n 44 [v] = some x := by
  obtain ⟨f0, f1, hu, o0, o1, t0, t1⟩ := pointFields
  have c0 : Try.prog.cellsOf f0.type = 1 := by rw [t0]; exact cellsInt
  have c1 : Try.prog.cellsOf f1.type = 1 := by rw [t1]; exact cellsInt
  rcases open_slice_pairs Try.underlying44 hu cellsPoint o0 o1 c0 c1 hf with ⟨hcs, hx⟩ | ⟨a, len, cap, m, n, V0, V1, D0, D1, P0, P1, hcs, _, hl, hm, hmm, hx, hel⟩
  · obtain rfl : v = .slice none 0 0 := by simpa using hcs
    subst hx
    exact ⟨none, 0, [], rfl, ⟨SlS.nil _ _, by simp, fun _ => rfl⟩, by simp, fun W' sp _ _ => by obtain ⟨n', t⟩ := shut_slice_nil (P := Try.prog) (enc := enc) (w := W') (base := 0) (spare := sp) (held := true) Try.underlying44; exact ⟨n', by simpa [Value.cells] using t⟩⟩
  · obtain rfl : v = .slice (some a) len cap := by simpa using hcs
    subst hx
    simp only [if_true] at hmm
    obtain rfl : cap = m := hmm.symm
    rw [t0, t1] at hel
    have e0 : ∀ i, i < cap → V0 i = .int .i64 (intOf (V0 i)) := fun i hi => by
      obtain ⟨x, e, _⟩ := int_back (W' := W) (sp' := fun _ => true) (hel i hi).2.2.1
      rw [e]; rfl
    have e1 : ∀ i, i < cap → V1 i = .int .i64 (intOf (V1 i)) := fun i hi => by
      obtain ⟨x, e, _⟩ := int_back (W' := W) (sp' := fun _ => true) (hel i hi).2.2.2
      rw [e]; rfl
    have hlen : ((List.range len).map fun i => (intOf (V0 i), intOf (V1 i))).length = len := by simp
    have hgd : ∀ k, k < len → gdS ((List.range len).map fun i => (intOf (V0 i), intOf (V1 i))) k = (intOf (V0 k), intOf (V1 k)) := fun k hk => by rw [gdS_at (by rw [hlen]; exact hk)]; simp
    refine ⟨some a, cap, (List.range len).map fun i => (intOf (V0 i), intOf (V1 i)), by rw [hlen], ⟨?_, by rw [hlen]; unfold maxLen at hm; omega, fun e => by cases e⟩, ?_, ?_⟩
    · intro k hk
      rw [hlen] at hk
      obtain ⟨b, off, spot⟩ := a
      have hspot : spot = none := by simpa [Addr.add] using World.cell?_spot (hel 0 (by omega)).1
      subst hspot
      refine ⟨b, off, rfl, ?_, ?_⟩
      · rw [← add_plain, (hel k (by omega)).1, hgd k hk, ← e0 k (by omega)]
      · rw [Nat.add_assoc, ← add_plain, (hel k (by omega)).2.1, hgd k hk, ← e1 k (by omega)]
    · intro s hs
      obtain ⟨i, hi, rfl⟩ := List.mem_map.1 hs
      have hi' := List.mem_range.1 hi
      obtain ⟨x, ex, _, wx, _⟩ := int_back (W' := W) (sp' := fun _ => true) (hel i (by omega)).2.2.1
      obtain ⟨y, ey, _, wy, _⟩ := int_back (W' := W) (sp' := fun _ => true) (hel i (by omega)).2.2.2
      rw [ex, ey]
      exact ⟨wf_i wx, wf_i wy⟩
    · intro W' sp hb hsp
      by_cases hz : cap = 0
      · subst hz
        have hl0 : len = 0 := by omega
        subst hl0
        cases hs : sp a.block with
        | true =>
          obtain ⟨n', t⟩ := shut_slice_whole_cells (enc := enc) (w := W') (base := 0) (spare := sp) (held := true) (a := a) (len := 0) (cap := 0) Try.underlying44 (Nat.zero_le _) (Nat.le_refl _) hm hs (fun i => .agg [D0 i, D1 i]) (fun i => P0 i ++ P1 i) (fun i hi => absurd hi (Nat.not_lt_zero i))
          exact ⟨n', by rw [cellsPoint] at t; simpa [Value.cells] using t⟩
        | false =>
          obtain ⟨n', t⟩ := shut_slice_cells (enc := enc) (w := W') (base := 0) (spare := sp) (held := true) (a := a) (len := 0) (cap := 0) Try.underlying44 (Nat.zero_le _) (Nat.le_refl _) hm hs (fun i => .agg [D0 i, D1 i]) (fun i => P0 i ++ P1 i) (fun i hi => absurd hi (Nat.not_lt_zero i))
          exact ⟨n', by rw [cellsPoint] at t; simpa [Value.cells] using t⟩
      · obtain ⟨b, off, spot⟩ := a
        have hspot : spot = none := by simpa [Addr.add] using World.cell?_spot (hel 0 (by omega)).1
        subst hspot
        have hspb : sp b = true := hsp (.cell b off) (List.mem_append.2 (.inl (MemPlace.mem_row.2 ⟨0, by omega, by simp⟩)))
        obtain ⟨n', t⟩ := shut_slice_pairs_whole (enc := enc) (w := W') (base := 0) (spare := sp) (held := true) Try.underlying44 hu cellsPoint o0 o1 c0 c1 (b := b) (off := off) (len := len) (cap := cap) (Nat.zero_le _) hl hm hspb V0 V1 D0 D1 P0 P1
          (fun i hi => by have h1 := (hel i hi).1; rw [add_plain] at h1; rw [hb.cell (block_lt h1)]; exact h1)
          (fun i hi => by have h1 := (hel i hi).2.1; rw [add_plain] at h1; rw [Nat.add_assoc, hb.cell (block_lt h1)]; exact h1)
          (fun i hi => by rw [t0]; obtain ⟨_, _, _, _, hn⟩ := int_back (W' := W') (sp' := sp) (hel i hi).2.2.1; exact hn)
          (fun i hi => by rw [t1]; obtain ⟨_, _, _, _, hn⟩ := int_back (W' := W') (sp' := sp) (hel i hi).2.2.2; exact hn)
        exact ⟨n', by simpa [Value.cells] using t⟩

theorem cellsBody : Try.prog.cellsOf 46 = 3 := by kernel_rfl

end Go.Proofs.Ytiffgcipdamngaa
