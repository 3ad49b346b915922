/-
  Plain tools, no function of the program: rows that a call has made, as slices of ints and of pairs of ints; slices of pairs that come in.
-/
import Derived.Test.YtgdgpfpihpofdaaGenA
import Derived.Deep.Slices
import Derived.Deep.Fields
import Derived.ChangeSame
import Derived.Carry
import Derived.ProofKit
import Derived.OpenShut
import Derived.ChangeSlices
import Derived.Lib.SmallJoins
namespace Go.Proofs.Ytgdgpfpihpofdaa
open Go.ChangeShapes Go.WideShapes Go.ChangeAt Go.RowKit Go.Joins Go.Deep
open Go.RowKit (Below)
set_option linter.unusedVariables false

theorem wf_i {x : Int} (h : (Lit.int .i64 x).wf = true) : I64 x := by
  have e1 : IntKind.i64.min = -9223372036854775808 := rfl
  have e2 : IntKind.i64.max = 9223372036854775807 := rfl
  simp [Lit.wf, e1, e2] at h
  exact h


/-- An element of a list of pairs. -/
def gdS (xs : List (Int × Int)) (k : Nat) : Int × Int := xs.getD k (0, 0)
theorem gdS_at {xs : List (Int × Int)} {k : Nat} (h : k < xs.length) : gdS xs k = xs[k] := by simp [gdS, List.getD_eq_getElem?_getD, h]
theorem gdS_mem {xs : List (Int × Int)} {k : Nat} (h : k < xs.length) : gdS xs k ∈ xs := by simp [gdS_at h]
/-- The slice at A reads as the pairs xs. -/
def SlS (w : World) (A : Option Addr) (xs : List (Int × Int)) : Prop := ∀ k, k < xs.length → ∃ b o, A = some ⟨b, o, none⟩ ∧ w.cell? ⟨b, o + k * 2, none⟩ = some (.int .i64 (gdS xs k).1) ∧ w.cell? ⟨b, o + k * 2 + 1, none⟩ = some (.int .i64 (gdS xs k).2)
theorem SlS.same {w w' : World} {A : Option Addr} {xs : List (Int × Int)} (h : SlS w A xs) (hb : ∀ b o, A = some ⟨b, o, none⟩ → b < w.heap.size → w'.heap[b]? = w.heap[b]?) : SlS w' A xs := by
  intro k hk
  obtain ⟨b, o, e, hc, hd⟩ := h k hk
  refine ⟨b, o, e, ?_, ?_⟩
  · rw [World.cell?_of_block (a := ⟨b, o + k * 2, none⟩) (hb b o e (block_lt hc))]; exact hc
  · rw [World.cell?_of_block (a := ⟨b, o + k * 2 + 1, none⟩) (hb b o e (block_lt hc))]; exact hd
theorem SlS.below {w w' : World} {A : Option Addr} {xs : List (Int × Int)} (h : SlS w A xs) (hb : Below w.heap.size w w') : SlS w' A xs :=
  h.same fun b _ _ hlt => hb.block b hlt
theorem SlS.nil (w : World) (A : Option Addr) : SlS w A [] := fun k hk => absurd hk (Nat.not_lt_zero k)
theorem Sl.nil (w : World) (A : Option Addr) : Sl w A [] := fun k hk => absurd hk (Nat.not_lt_zero k)
theorem sl_here {w : World} {b o : Nat} {xs : List Int} (h : Sl w (some ⟨b, o, none⟩) xs) {k : Nat} (hk : k < xs.length) : w.cell? ⟨b, o + k, none⟩ = some (.int .i64 (gd xs k)) := by
  obtain ⟨b', o', e, hc⟩ := h k hk
  injection e with e
  injection e with e1 e2
  subst e1 e2
  exact hc
/-- The cells of a list of pairs, and of a list of ints. -/
def flatV (xs : List (Int × Int)) : List Value := xs.flatMap fun s => [.int .i64 s.1, .int .i64 s.2]
theorem flatV_len (xs : List (Int × Int)) : (flatV xs).length = xs.length * 2 := by
  unfold flatV
  induction xs with
  | nil => rfl
  | cons s r ih => rw [List.flatMap_cons, List.length_append, ih]; simp; omega
theorem flatV_app (xs ys : List (Int × Int)) : flatV (xs ++ ys) = flatV xs ++ flatV ys := by simp [flatV]
theorem flatV_at : ∀ {xs : List (Int × Int)} {k : Nat}, k < xs.length → (flatV xs)[k * 2]? = some (.int .i64 (gdS xs k).1) ∧ (flatV xs)[k * 2 + 1]? = some (.int .i64 (gdS xs k).2)
  | [], _, h => absurd h (Nat.not_lt_zero _)
  | s :: r, 0, _ => ⟨rfl, rfl⟩
  | s :: r, k + 1, h => by
    have ih := flatV_at (xs := r) (k := k) (by simpa using h)
    have e : flatV (s :: r) = .int .i64 s.1 :: .int .i64 s.2 :: flatV r := by simp [flatV]
    have g : gdS (s :: r) (k + 1) = gdS r k := by simp [gdS]
    rw [e, g, show (k + 1) * 2 = k * 2 + 1 + 1 by omega]
    exact ⟨by simpa using ih.1, by simpa using ih.2⟩
theorem own_form {w : World} {base : Nat} {e : TypeId} {size : Nat} {v : Value} {n : Nat} {xs : List Value} (h : w.ownsRow base e size v n xs) : ∃ A C, v = .slice A n C ∧ n ≤ C ∧ C ≤ maxLen ∧ ∀ j u, xs[j]? = some u → ∃ g, A = some ⟨g, 0, none⟩ ∧ base ≤ g ∧ w.cell? ⟨g, j, none⟩ = some u := by
  rcases h.2 with ⟨rfl, rfl⟩ | ⟨g, cap, cur, rfl, hb, hg, hn, hm, hs, ht⟩
  · have hx : xs = [] := List.eq_nil_of_length_eq_zero (by simpa using h.1)
    subst hx
    exact ⟨none, 0, rfl, Nat.le_refl _, Nat.zero_le _, fun j u hu => by simp at hu⟩
  · refine ⟨some ⟨g, 0, none⟩, cap, rfl, hn, hm, fun j u hu => ⟨g, rfl, hb, ?_⟩⟩
    have hj : j < n * size := by
      rw [← h.1]
      exact (List.getElem?_eq_some_iff.1 hu).1
    have h2 : w.ownsRow base e size (.slice (some ⟨g, 0, none⟩) n cap) n xs := ⟨h.1, .inr ⟨g, cap, cur, rfl, hb, hg, hn, hm, hs, ht⟩⟩
    rw [World.ownsRow.cellAt h2 j hj]
    exact hu
theorem own_sl {w : World} {base : Nat} {e : TypeId} {v : Value} {n : Nat} {xs : List Int} (h : w.ownsRow base e 1 v n (xs.map (Value.int .i64))) : ∃ A C, v = .slice A xs.length C ∧ Sl w A xs := by
  have hn : n = xs.length := by have := h.1; simp at this; omega
  subst hn
  obtain ⟨A, C, hv, _, _, hc⟩ := own_form h
  refine ⟨A, C, hv, fun k hk => ?_⟩
  obtain ⟨g, ha, _, hcell⟩ := hc k (.int .i64 (gd xs k)) (by simp [gd_at hk, hk])
  exact ⟨g, 0, ha, by rw [Nat.zero_add]; exact hcell⟩
theorem own_slS {w : World} {base : Nat} {e : TypeId} {v : Value} {n : Nat} {xs : List (Int × Int)} (h : w.ownsRow base e 2 v n (flatV xs)) : ∃ A C, v = .slice A xs.length C ∧ xs.length ≤ C ∧ C ≤ maxLen ∧ SlS w A xs := by
  have hn : n = xs.length := by have := h.1; rw [flatV_len] at this; omega
  subst hn
  obtain ⟨A, C, hv, h1, h2, hc⟩ := own_form h
  refine ⟨A, C, hv, h1, h2, fun k hk => ?_⟩
  obtain ⟨e1, e2⟩ := flatV_at hk
  obtain ⟨g, ha, _, c1⟩ := hc _ _ e1
  obtain ⟨g', ha', _, c2⟩ := hc _ _ e2
  rw [ha] at ha'
  injection ha' with ha'
  injection ha' with ha'
  subst ha'
  exact ⟨g, 0, ha, by rw [Nat.zero_add]; exact c1, by rw [Nat.zero_add]; exact c2⟩

theorem cellsInt : Try.prog.cellsOf 3 = 1 := by kernel_rfl
set_option maxRecDepth 100000 in
/-- What a slice of ints that comes in gives, and that it reads as it did behind a call that makes memory alone. -/
theorem open_list2 {H : Type} {enc : TypeId × Value → H} {W : World} {base : Nat} {v : Value} {d : DataW H} {p : List MemPlace} (hv : Value.okWide Try.prog W .any base 53 v) (h : DataW.Trod enc Try.prog W 0 (fun _ => true) true 53 v d p) :
    ∃ (A : Option Addr) (cap : Nat) (xs : List Int), v = .slice A xs.length cap ∧ Sl W A xs ∧ xs.length ≤ 9223372036854775807 ∧ (∀ x ∈ xs, I64 x) ∧ (xs.length ≤ cap ∧ cap ≤ 9223372036854775807) ∧
      ∀ (W' : World) (sp : Nat → Bool), Below W.heap.size W W' → (∀ q ∈ p, sp q.block = true) → DataW.Trod enc Try.prog W' 0 sp true 53 v d p := by
  obtain ⟨a0, len, cap, rfl⟩ := okWide_slice Try.underlying53 hv
  obtain ⟨fuel, hf⟩ := h
  rcases open_ints Try.underlying53 Try.underlying3 cellsInt hf with ⟨hcs, hx⟩ | ⟨a, len', cap', zs, hcs, _, hl, hm, hz, hx, hcell, hwz⟩
  · simp [Value.cells] at hcs
    obtain ⟨rfl, rfl, rfl⟩ := hcs
    simp only [Prod.mk.injEq] at hx
    obtain ⟨rfl, rfl⟩ := hx
    exact ⟨none, 0, [], rfl, fun k hk => absurd hk (by simp), by simp, by simp, by simp, fun W' sp _ _ => shut_slice_nil Try.underlying53⟩
  · simp [Value.cells] at hcs
    obtain ⟨rfl, rfl, rfl⟩ := hcs
    simp only [Prod.mk.injEq] at hx
    obtain ⟨rfl, rfl⟩ := hx
    simp only [if_true] at hz
    have hlen : (zs.take len).length = len := by simp; omega
    refine ⟨some a, cap, zs.take len, by rw [hlen], ?_, by rw [hlen]; unfold maxLen at hm; omega, fun x hx => wf_i (hwz x (List.mem_of_mem_take hx)), ⟨by rw [hlen]; exact hl, by unfold maxLen at hm; omega⟩, ?_⟩
    · intro k hk
      rw [hlen] at hk
      have hc := hcell k (by omega)
      obtain ⟨b, off, spot⟩ := a
      have hspot : spot = none := by simpa [Addr.add] using World.cell?_spot (hcell 0 (by omega))
      subst hspot
      refine ⟨b, off, rfl, ?_⟩
      rw [← add_plain, hc]
      unfold gd
      simp [List.getD_eq_getElem?_getD, hk]
    · intro W' sp hb hsp
      have hcell' : ∀ i, i < zs.length → W'.cell? (a.add i) = some (.int .i64 (zs.getD i 0)) := fun i hi => by
        rw [hb.cell (block_lt (hcell i hi))]; exact hcell i hi
      by_cases hz0 : zs.length = 0
      · have hc0 : cap = 0 := by omega
        have hl0 : len = 0 := by omega
        subst hc0; subst hl0
        have t0 := shut_ints (enc := enc) (w := W') (base := 0) (spare := sp) (held := true) (a := a) (len := 0) (cap := 0) (zs := zs) 0 Try.underlying53 Try.underlying3 cellsInt (Nat.zero_le _) (Nat.le_refl _) hm (by simp [hz0]) hcell' hwz
        exact ⟨2, by simpa [Value.cells] using t0⟩
      · have hspb : sp a.block = true := by
          have := hsp (.cell a.block a.off) (MemPlace.mem_row.2 ⟨0, by omega, by simp⟩)
          exact this
        have t0 := shut_ints (enc := enc) (w := W') (base := 0) (spare := sp) (held := true) (a := a) (len := len) (cap := cap) (zs := zs) 0 Try.underlying53 Try.underlying3 cellsInt (Nat.zero_le _) hl hm (by simp [hspb, hz]) hcell' hwz
        exact ⟨2, by simpa [Value.cells] using t0⟩

end Go.Proofs.Ytgdgpfpihpofdaa
