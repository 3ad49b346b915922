/-
  Plain facts for layer 9: the lines that Lines gives are right. The laws of layer 9: head. Plain facts for layer 9: ways that are blocked, by the parts that are strictly inside; the way back; the middle of a way; ways that are moved. Slices of bodies, of targets and of lines that come in.
-/
import Derived.Test.YtiffgcipdamngaaZSgtZC
import Derived.Test.YtiffgcipdamngaaZShpX
import Derived.Test.YtiffgcipdamngaaZShpY
import Derived.Test.YtiffgcipdamngaaZSgtZA
import Derived.Deep.Slices
import Derived.Deep.Strs
namespace Go.Proofs.Ytiffgcipdamngaa
set_option linter.unusedVariables false
set_option linter.unusedSimpArgs false



theorem lns_num (ex ey ez : Int) (T : List Q4) (L : List Bv) : Num (lns ex ey ez T L) T.length := ⟨lns_len _ _ _ _ _, fun k hk => by rw [lns_at hk, lin_a]⟩



end Go.Proofs.Ytiffgcipdamngaa

namespace Go.Proofs.Ytiffgcipdamngaa
open Go.RowKit Go.Sort
open Go.RowKit (Below)
set_option linter.unusedVariables false
set_option linter.unusedSimpArgs false
attribute [local go_sem] Oper.semAt_some






theorem two_of {P : Nat → Prop} (h0 : P 0) (h1 : P 1) : ∀ i, i < 2 → P i := by
  intro i hi
  have : i = 0 ∨ i = 1 := by omega
  rcases this with rfl | rfl <;> assumption
theorem one_of {P : Nat → Prop} (h0 : P 0) : ∀ i, i < 1 → P i := by
  intro i hi
  obtain rfl : i = 0 := by omega
  exact h0




















theorem s4_two {W : World} {g : Nat} {t : TypeId} {fz : Nat × Nat} {p q : Q4} (h : W.heap[g]? = some (.cells #[.int .i64 p.a, .int .i64 p.b, .int .i64 p.c, .int .i64 p.d, .int .i64 q.a, .int .i64 q.b, .int .i64 q.c, .int .i64 q.d] t fz)) : S4 W (some ⟨g, 0, none⟩) [p, q] :=
  two_of (P := fun k => ∃ b o, some (⟨g, 0, none⟩ : Addr) = some ⟨b, o, none⟩ ∧ W.cell? ⟨b, o + k * 4, none⟩ = some (.int .i64 (gd4 [p, q] k).a) ∧ W.cell? ⟨b, o + k * 4 + 1, none⟩ = some (.int .i64 (gd4 [p, q] k).b) ∧ W.cell? ⟨b, o + k * 4 + 2, none⟩ = some (.int .i64 (gd4 [p, q] k).c) ∧ W.cell? ⟨b, o + k * 4 + 3, none⟩ = some (.int .i64 (gd4 [p, q] k).d))
    ⟨g, 0, rfl, by simp [World.cell?, h, gd4], by simp [World.cell?, h, gd4], by simp [World.cell?, h, gd4], by simp [World.cell?, h, gd4]⟩ ⟨g, 0, rfl, by simp [World.cell?, h, gd4], by simp [World.cell?, h, gd4], by simp [World.cell?, h, gd4], by simp [World.cell?, h, gd4]⟩

end Go.Proofs.Ytiffgcipdamngaa

namespace Go.Proofs.Ytiffgcipdamngaa
set_option linter.unusedVariables false
set_option linter.unusedSimpArgs false
section
variable {b : Bv} {ex ey ez x y z n d : Int}







end
/-! ### The first body -/
section
variable {ex ey ez x y z : Int} {L : List Bv}
theorem frs_len : frs ex ey ez x y z L = L.length ↔ ∀ j, j < L.length → hit ex ey ez x y z (gdB L j) = false :=
  ⟨fun h j hj => frs_before (by omega), frs_none⟩

theorem lin_b (i : Int) : ((lin ex ey ez x y z L i).b = -1 ↔ frs ex ey ez x y z L = L.length) ∧ (frs ex ey ez x y z L < L.length → (lin ex ey ez x y z L i).b = frs ex ey ez x y z L) := by
  have hle := frs_le (ex := ex) (ey := ey) (ez := ez) (x := x) (y := y) (z := z) (L := L)
  by_cases h : frs ex ey ez x y z L < L.length
  · rw [lin_hit h]
    exact ⟨⟨fun e => by have : ((frs ex ey ez x y z L : Nat) : Int) = -1 := e; omega, fun e => by omega⟩, fun _ => rfl⟩
  · rw [lin_none (by omega)]
    exact ⟨iff_of_true rfl (by omega), fun h' => absurd h' h⟩
end
/-! ### The middle -/
section
variable {b : Bv} {ex ey ez x y z hx hy hz : Int}





end
/-! ### The way back -/
section
variable {b : Bv} {ex ey ez x y z : Int}

end



end Go.Proofs.Ytiffgcipdamngaa

namespace Go.Proofs.Ytiffgcipdamngaa
open Go.ChangeShapes Go.WideShapes Go.ChangeAt Go.RowKit Go.Joins Go.Deep
open Go.RowKit (Below)
set_option linter.unusedVariables false
set_option linter.unusedSimpArgs false

set_option maxRecDepth 100000 in
set_option maxHeartbeats 800000 in
/-- What a slice that comes in gives, and that it reads as it did behind a call that makes memory alone: for whatever elements. -/
theorem open_seq {α : Type} [Inhabited α] {H : Type} {enc : TypeId × Value → H} {W : World} {t e : TypeId} {n : Nat} (ht : Try.prog.underlying t = some (.slice e)) (hn : Try.prog.cellsOf e = n) (hp : 0 < n) (vals : α → List Value) (hv : ∀ a, (vals a).length = n) (Good : α → Prop)
    (elem : ∀ m cs x, DataW.trod enc Try.prog W 0 (fun _ => true) true m e cs = some x → ∃ a, cs = vals a ∧ Good a ∧ ∀ (W' : World) (sp : Nat → Bool), Below W.heap.size W W' → (∀ q ∈ x.2, sp q.block = true) → ∃ n, DataW.trod enc Try.prog W' 0 sp true n e cs = some x)
    {fuel : Nat} {v : Value} {x : DataW H × List MemPlace} (hf : DataW.trod enc Try.prog W 0 (fun _ => true) true fuel t [v] = some x) :
    ∃ (A : Option Addr) (cap : Nat) (L : List α), v = .slice A L.length cap ∧ L.length ≤ cap ∧ cap ≤ maxLen ∧ (A = none → cap = 0) ∧
      (∀ k (hk : k < L.length), ∃ b o, A = some ⟨b, o, none⟩ ∧ (∀ i u, (vals L[k])[i]? = some u → W.cell? ⟨b, o + k * n + i, none⟩ = some u) ∧ Good L[k]) ∧
      ∀ (W' : World) (sp : Nat → Bool), Below W.heap.size W W' → (∀ q ∈ x.2, sp q.block = true) → ∃ n, DataW.trod enc Try.prog W' 0 sp true n t [v] = some x := by
  rcases open_slice ht hf with ⟨hcs, hx⟩ | ⟨a, len, cap, m, n', D, Pl, hcs, _, hl, hm, hmm, hx, hel⟩
  · obtain rfl : v = .slice none 0 0 := by simpa using hcs
    subst hx
    exact ⟨none, 0, [], rfl, Nat.le_refl _, Nat.zero_le _, fun _ => rfl, fun k hk => absurd hk (Nat.not_lt_zero k), fun W' sp _ _ => by obtain ⟨n', t⟩ := shut_slice_nil (P := Try.prog) (enc := enc) (w := W') (base := 0) (spare := sp) (held := true) ht; exact ⟨n', by simpa [Value.cells] using t⟩⟩
  · obtain rfl : v = .slice (some a) len cap := by simpa using hcs
    subst hx
    simp only [if_true] at hmm
    obtain rfl : cap = m := hmm.symm
    have each : ∀ i, i < cap → ∃ q : α, (∀ j u, (vals q)[j]? = some u → W.cell? (a.add (i * n + j)) = some u) ∧ Good q ∧
        ∀ (W' : World) (sp : Nat → Bool), Below W.heap.size W W' → (∀ p ∈ Pl i, sp p.block = true) → ∃ k, DataW.trod enc Try.prog W' 0 sp true k e (vals q) = some (D i, Pl i) := by
      intro i hi
      obtain ⟨cs', h1, h2⟩ := hel i hi
      rw [hn] at h1
      obtain ⟨q, rfl, hg, hb⟩ := elem _ _ _ h2
      obtain ⟨_, hlen, hcell⟩ := World.cells?_some h1
      refine ⟨q, fun j u hj => ?_, hg, hb⟩
      have hjn : j < n := by rw [← hv q]; exact (List.getElem?_eq_some_iff.1 hj).1
      have := hcell j hjn
      rw [add_add] at this
      rw [this, hj]
    obtain ⟨q, hq⟩ := choose_lt each
    have hlen : ((List.range len).map q).length = len := by simp
    have hat : ∀ k (hk : k < ((List.range len).map q).length), ((List.range len).map q)[k] = q k := fun k hk => by simp
    have first : ∀ i, i < cap → ∃ u, (vals (q i))[0]? = some u := fun i hi => ⟨(vals (q i))[0]'(by rw [hv]; exact hp), List.getElem?_eq_getElem _⟩
    have plain : 0 < cap → ∃ b o, a = ⟨b, o, none⟩ := fun hi => by
      obtain ⟨u, hu⟩ := first 0 hi
      have := (hq 0 hi).1 0 u hu
      obtain ⟨b, off, spot⟩ := a
      have hspot : spot = none := by simpa [Addr.add] using World.cell?_spot this
      exact ⟨b, off, by rw [hspot]⟩
    refine ⟨some a, cap, (List.range len).map q, by rw [hlen], by rw [hlen]; exact hl, hm, (fun e => by cases e), ?_, ?_⟩
    · intro k hk
      rw [hat k hk]
      rw [hlen] at hk
      obtain ⟨b, o, rfl⟩ := plain (by omega)
      refine ⟨b, o, rfl, fun i u hu => ?_, (hq k (by omega)).2.1⟩
      have := (hq k (by omega)).1 i u hu
      rwa [add_plain, ← Nat.add_assoc] at this
    · intro W' sp hb hsp
      by_cases hz : cap = 0
      · subst hz
        have hl0 : len = 0 := by omega
        subst hl0
        cases hs : sp a.block with
        | true =>
          obtain ⟨n', t⟩ := shut_slice_whole_cells (enc := enc) (w := W') (base := 0) (spare := sp) (held := true) (a := a) (len := 0) (cap := 0) ht (Nat.zero_le _) (Nat.le_refl _) hm hs D Pl (fun i hi => absurd hi (Nat.not_lt_zero i))
          exact ⟨n', by simpa using t⟩
        | false =>
          obtain ⟨n', t⟩ := shut_slice_cells (enc := enc) (w := W') (base := 0) (spare := sp) (held := true) (a := a) (len := 0) (cap := 0) ht (Nat.zero_le _) (Nat.le_refl _) hm hs D Pl (fun i hi => absurd hi (Nat.not_lt_zero i))
          exact ⟨n', by simpa using t⟩
      · obtain ⟨b, off, rfl⟩ := plain (by omega)
        have hspb : sp b = true := hsp (.cell b off) (List.mem_append.2 (.inl (MemPlace.mem_row.2 ⟨0, by rw [hn]; exact Nat.mul_pos (by omega) hp, by simp⟩)))
        obtain ⟨n', t⟩ := shut_slice_whole_cells (enc := enc) (w := W') (base := 0) (spare := sp) (held := true) (a := ⟨b, off, none⟩) (len := len) (cap := cap) ht (Nat.zero_le _) hl hm hspb D Pl (fun i hi => by
          obtain ⟨h1, _, h3⟩ := hq i hi
          obtain ⟨k, hk⟩ := h3 W' sp hb (fun p hp' => hsp p (List.mem_append.2 (.inr (List.mem_flatMap.2 ⟨i, List.mem_range.2 hi, hp'⟩))))
          refine ⟨vals (q i), k, ?_, hk⟩
          rw [hn, add_plain]
          refine cells?_of (Nat.zero_le _) (hv _) fun j hj => ?_
          have hju : (vals (q i))[j]? = some ((vals (q i))[j]'(by rw [hv]; exact hj)) := List.getElem?_eq_getElem _
          have h4 := h1 j _ hju
          rw [add_plain, ← Nat.add_assoc] at h4
          rw [hju, hb.cell (block_lt h4)]
          exact h4)
        exact ⟨n', t⟩

theorem cellsVec : Try.prog.cellsOf 27 = 3 := by kernel_rfl

theorem cellsTarget : Try.prog.cellsOf 41 = 4 := by kernel_rfl

theorem cellsPts : Try.prog.cellsOf 44 = 1 := by kernel_rfl
section
variable {H : Type} {enc : TypeId × Value → H} {W : World} {sp : Nat → Bool} {m : Nat} {cs : List Value} {x : DataW H × List MemPlace}
set_option maxRecDepth 100000 in
theorem vec_back (h : DataW.trod enc Try.prog W 0 sp true m 27 cs = some x) :
    ∃ a b c : Int, cs = [.int .i64 a, .int .i64 b, .int .i64 c] ∧ ∀ (W' : World) (sp' : Nat → Bool), ∃ n, DataW.trod enc Try.prog W' 0 sp' true n 27 cs = some x := by
  obtain ⟨y0, y1, y2, m, rfl, hl, h0, h1, h2⟩ := trod_struct3 Try.underlying27 h
  rw [cellsVec] at hl
  match cs, hl with
  | [v0, v1, v2], _ =>
    simp only [cellsInt, List.drop_zero, List.drop_succ_cons, List.take_succ_cons, List.take_zero] at h0 h1 h2
    have k0 := fun W' sp' => int_back (W' := W') (sp' := sp') h0
    have k1 := fun W' sp' => int_back (W' := W') (sp' := sp') h1
    have k2 := fun W' sp' => int_back (W' := W') (sp' := sp') h2
    obtain ⟨a, rfl, _⟩ := k0 W sp
    obtain ⟨b, rfl, _⟩ := k1 W sp
    obtain ⟨c, rfl, _⟩ := k2 W sp
    refine ⟨a, b, c, rfl, fun W' sp' => ?_⟩
    obtain ⟨_, _, _, _, n0, t0⟩ := k0 W' sp'
    obtain ⟨_, _, _, _, n1, t1⟩ := k1 W' sp'
    obtain ⟨_, _, _, _, n2, t2⟩ := k2 W' sp'
    exact ⟨_, trod_struct3_mk (n := n0 + n1 + n2) Try.underlying27 (by rw [cellsVec]; rfl)
      (by simpa [cellsInt] using DataW.trod_le (show n0 ≤ n0 + n1 + n2 by omega) t0) (by simpa [cellsInt] using DataW.trod_le (show n1 ≤ n0 + n1 + n2 by omega) t1) (by simpa [cellsInt] using DataW.trod_le (show n2 ≤ n0 + n1 + n2 by omega) t2)⟩

/-- The four cells of a target, or of a line. -/
def vals4 (q : Q4) : List Value := [.int .i64 q.a, .int .i64 q.b, .int .i64 q.c, .int .i64 q.d]
set_option maxRecDepth 100000 in
theorem target_back (h : DataW.trod enc Try.prog W 0 sp true m 41 cs = some x) :
    ∃ q : Q4, cs = vals4 q ∧ ∀ (W' : World) (sp' : Nat → Bool), ∃ n, DataW.trod enc Try.prog W' 0 sp' true n 41 cs = some x := by
  obtain ⟨y0, y1, m, rfl, hl, h0, h1⟩ := trod_struct2 Try.underlying41 h
  rw [cellsTarget] at hl
  match cs, hl with
  | [v0, v1, v2, v3], _ =>
    simp only [cellsInt, cellsVec, List.drop_zero, List.drop_succ_cons, List.take_succ_cons, List.take_zero] at h0 h1
    obtain ⟨a, b, c, e, k0⟩ := vec_back h0
    have k1 := fun W' sp' => int_back (W' := W') (sp' := sp') h1
    obtain ⟨d, rfl, _⟩ := k1 W sp
    simp only [List.cons.injEq, and_true] at e
    obtain ⟨rfl, rfl, rfl⟩ := e
    refine ⟨⟨a, b, c, d⟩, rfl, fun W' sp' => ?_⟩
    obtain ⟨n0, t0⟩ := k0 W' sp'
    obtain ⟨_, _, _, _, n1, t1⟩ := k1 W' sp'
    exact ⟨_, trod_struct2_mk (n := n0 + n1) Try.underlying41 (by rw [cellsTarget]; rfl)
      (by simpa [cellsVec] using DataW.trod_le (show n0 ≤ n0 + n1 by omega) t0) (by simpa [cellsInt] using DataW.trod_le (show n1 ≤ n0 + n1 by omega) t1)⟩

end
/-- The three cells of a body. -/
def vals3 (b : Bv) : List Value := [.slice b.A b.xs.length b.C, .int .i64 b.lo, .int .i64 b.hi]





instance : Inhabited Bv := ⟨⟨none, 0, [], 0, 0⟩⟩
instance : Inhabited Q4 := ⟨⟨0, 0, 0, 0⟩⟩
section
variable {H : Type} {enc : TypeId × Value → H} {W : World} {base : Nat} {v : Value} {d : DataW H} {p : List MemPlace}



end
end Go.Proofs.Ytiffgcipdamngaa
