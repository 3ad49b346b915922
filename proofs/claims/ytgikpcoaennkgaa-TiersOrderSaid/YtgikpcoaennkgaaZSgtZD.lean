/-
  Slices of bodies, of targets and of lines that come in.
-/
import Derived.Test.YtgikpcoaennkgaaZSgtZA
import Derived.Deep.Slices
import Derived.Deep.Strs
namespace Go.Proofs.Ytgikpcoaennkgaa
open Go.ChangeShapes Go.WideShapes Go.ChangeAt Go.RowKit Go.Joins Go.Deep
open Go.RowKit (Below)
set_option linter.unusedVariables false
set_option linter.unusedSimpArgs false

set_option maxRecDepth 100000 in
set_option maxHeartbeats 800000 in
/-- What a slice that comes in gives, and that it reads as it did behind a call that makes memory alone: for whatever elements. -/
theorem open_seq {α : Type} [Inhabited α] {H : Type} {enc : TypeId × Value → H} {W : World} {t e : TypeId} {n : Nat} (ht : Try.prog.underlying t = some (.slice e)) (hn : Try.prog.cellsOf e = n) (hp : 0 < n) (vals : α → List Value) (hv : ∀ a, (vals a).length = n) (Good : α → Prop)
    (elem : ∀ m cs x, DataW.trod enc Try.prog W 0 (fun _ => true) true m e cs = some x → ∃ a, cs = vals a ∧ Good a ∧ ∀ (W' : World) (sp : Nat → Bool), Below W.heap.size W W' → (∀ q ∈ x.2, sp q.block = true) → ∃ n, DataW.trod enc Try.prog W' 0 sp true n e cs = some x)
    {fuel : Nat} {v : Value} {x : DataW H × List MemPlace} (hf : DataW.trod enc Try.prog W 0 (fun _ => true) true fuel t [v] = some x) :
    ∃ (A : Option Addr) (cap : Nat) (L : List α), v = .slice A L.length cap ∧ L.length ≤ cap ∧ cap ≤ maxLen ∧ (A = none → cap = 0) ∧
      (∀ k (hk : k < L.length), ∃ b o, A = some ⟨b, o, none⟩ ∧ (∀ i u, (vals L[k])[i]? = some u → W.cell? ⟨b, o + k * n + i, none⟩ = some u) ∧ Good L[k]) ∧
      ∀ (W' : World) (sp : Nat → Bool), Below W.heap.size W W' → (∀ q ∈ x.2, sp q.block = true) → ∃ n, DataW.trod enc Try.prog W' 0 sp true n t [v] = some x := by
  rcases open_slice ht hf with ⟨hcs, hx⟩ | ⟨a, len, cap, m, n', D, Pl, hcs, _, hl, hm, hmm, hx, hel⟩
  · obtain rfl : v = .slice none 0 0 := by simpa using hcs
    subst hx
    exact ⟨none, 0, [], rfl, Nat.le_refl _, Nat.zero_le _, fun _ => rfl, fun k hk => absurd hk (Nat.not_lt_zero k), fun W' sp _ _ => by obtain ⟨n', t⟩ := shut_slice_nil (P := Try.prog) (enc := enc) (w := W') (base := 0) (spare := sp) (held := true) ht; exact ⟨n', by simpa [Value.cells] using t⟩⟩
  · obtain rfl : v = .slice (some a) len cap := by simpa using hcs
    subst hx
    simp only [if_true] at hmm
    obtain rfl : cap = m := hmm.symm
    have each : ∀ i, i < cap → ∃ q : α, (∀ j u, (vals q)[j]? = some u → W.cell? (a.add (i * n + j)) = some u) ∧ Good q ∧
        ∀ (W' : World) (sp : Nat → Bool), Below W.heap.size W W' → (∀ p ∈ Pl i, sp p.block = true) → ∃ k, DataW.trod enc Try.prog W' 0 sp true k e (vals q) = some (D i, Pl i) := by
      intro i hi
      obtain ⟨cs', h1, h2⟩ := hel i hi
      rw [hn] at h1
      obtain ⟨q, rfl, hg, hb⟩ := elem _ _ _ h2
      obtain ⟨_, hlen, hcell⟩ := World.cells?_some h1
      refine ⟨q, fun j u hj => ?_, hg, hb⟩
      have hjn : j < n := by rw [← hv q]; exact (List.getElem?_eq_some_iff.1 hj).1
      have := hcell j hjn
      rw [add_add] at this
      rw [this, hj]
    obtain ⟨q, hq⟩ := choose_lt each
    have hlen : ((List.range len).map q).length = len := by simp
    have hat : ∀ k (hk : k < ((List.range len).map q).length), ((List.range len).map q)[k] = q k := fun k hk => by simp
    have first : ∀ i, i < cap → ∃ u, (vals (q i))[0]? = some u := fun i hi => ⟨(vals (q i))[0]'(by rw [hv]; exact hp), List.getElem?_eq_getElem _⟩
    have plain : 0 < cap → ∃ b o, a = ⟨b, o, none⟩ := fun hi => by
      obtain ⟨u, hu⟩ := first 0 hi
      have := (hq 0 hi).1 0 u hu
      obtain ⟨b, off, spot⟩ := a
      have hspot : spot = none := by simpa [Addr.add] using World.cell?_spot this
      exact ⟨b, off, by rw [hspot]⟩
    refine ⟨some a, cap, (List.range len).map q, by rw [hlen], by rw [hlen]; exact hl, hm, (fun e => by cases e), ?_, ?_⟩
    · intro k hk
      rw [hat k hk]
      rw [hlen] at hk
      obtain ⟨b, o, rfl⟩ := plain (by omega)
      refine ⟨b, o, rfl, fun i u hu => ?_, (hq k (by omega)).2.1⟩
      have := (hq k (by omega)).1 i u hu
      rwa [add_plain, ← Nat.add_assoc] at this
    · intro W' sp hb hsp
      by_cases hz : cap = 0
      · subst hz
        have hl0 : len = 0 := by omega
        subst hl0
        cases hs : sp a.block with
        | true =>
          obtain ⟨n', t⟩ := shut_slice_whole_cells (enc := enc) (w := W') (base := 0) (spare := sp) (held := true) (a := a) (len := 0) (cap := 0) ht (Nat.zero_le _) (Nat.le_refl _) hm hs D Pl (fun i hi => absurd hi (Nat.not_lt_zero i))
          exact ⟨n', by simpa using t⟩
        | false =>
          obtain ⟨n', t⟩ := shut_slice_cells (enc := enc) (w := W') (base := 0) (spare := sp) (held := true) (a := a) (len := 0) (cap := 0) ht (Nat.zero_le _) (Nat.le_refl _) hm hs D Pl (fun i hi => absurd hi (Nat.not_lt_zero i))
          exact ⟨n', by simpa using t⟩
      · obtain ⟨b, off, rfl⟩ := plain (by omega)
        have hspb : sp b = true := hsp (.cell b off) (List.mem_append.2 (.inl (MemPlace.mem_row.2 ⟨0, by rw [hn]; exact Nat.mul_pos (by omega) hp, by simp⟩)))
        obtain ⟨n', t⟩ := shut_slice_whole_cells (enc := enc) (w := W') (base := 0) (spare := sp) (held := true) (a := ⟨b, off, none⟩) (len := len) (cap := cap) ht (Nat.zero_le _) hl hm hspb D Pl (fun i hi => by
          obtain ⟨h1, _, h3⟩ := hq i hi
          obtain ⟨k, hk⟩ := h3 W' sp hb (fun p hp' => hsp p (List.mem_append.2 (.inr (List.mem_flatMap.2 ⟨i, List.mem_range.2 hi, hp'⟩))))
          refine ⟨vals (q i), k, ?_, hk⟩
          rw [hn, add_plain]
          refine cells?_of (Nat.zero_le _) (hv _) fun j hj => ?_
          have hju : (vals (q i))[j]? = some ((vals (q i))[j]'(by rw [hv]; exact hj)) := List.getElem?_eq_getElem _
          have h4 := h1 j _ hju
          rw [add_plain, ← Nat.add_assoc] at h4
          rw [hju, hb.cell (block_lt h4)]
          exact h4)
        exact ⟨n', t⟩

theorem cellsVec : Try.prog.cellsOf 26 = 3 := by kernel_rfl


section
variable {H : Type} {enc : TypeId × Value → H} {W : World} {sp : Nat → Bool} {m : Nat} {cs : List Value} {x : DataW H × List MemPlace}



end






instance : Inhabited Bv := ⟨⟨none, 0, [], 0, 0⟩⟩
instance : Inhabited Q4 := ⟨⟨0, 0, 0, 0⟩⟩
section
variable {H : Type} {enc : TypeId × Value → H} {W : World} {base : Nat} {v : Value} {d : DataW H} {p : List MemPlace}

end
end Go.Proofs.Ytgikpcoaennkgaa
