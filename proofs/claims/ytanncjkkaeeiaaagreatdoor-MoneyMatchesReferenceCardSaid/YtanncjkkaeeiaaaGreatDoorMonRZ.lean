/-
  MoneyMatchesReference: few; a slice of ints that comes in, with its capacity.
-/
import Derived.Test.YtanncjkkaeeiaaaGreatDoorMonRY
import Derived.Test.YtanncjkkaeeiaaaGreatDoorMonRT
import Derived.Test.YtanncjkkaeeiaaaGreatDoorMonRU
namespace Go.Proofs.YtanncjkkaeeiaaaGreatDoor
open Go.RowKit Go.Sort
open Go.RowKit (Below)
set_option linter.unusedVariables false

theorem few_nil (C : Nat) (w : World) : Calls Tryz.prog 5 #[.slice none 0 C] w fun e w' => e = .returned (.slice none 0 C) ∧ w = w' := by
  go_enter Tryz.func5, Tryz.ntmps5
  go_wp2
  go_ret
  exact ⟨rfl, rfl⟩
theorem few_all (a : Addr) (n C : Nat) (h1 : n ≤ C) (h2 : n ≤ 100) (hC : C ≤ 9223372036854775807) (w : World) : Calls Tryz.prog 5 #[.slice (some a) n C] w fun e w' => e = .returned (.slice (some a) n C) ∧ w = w' := by
  have hm : min (n : Int) 100 = n := by omega
  go_enter Tryz.func5, Tryz.ntmps5
  go_wp2
  go_ret
  exact ⟨rfl, rfl⟩
theorem few_cut (a : Addr) (n C : Nat) (h1 : n ≤ C) (h2 : 100 < n) (hC : C ≤ 9223372036854775807) (w : World) : Calls Tryz.prog 5 #[.slice (some a) n C] w fun e w' => e = .returned (.slice (some a) 100 C) ∧ w = w' := by
  have hm : min (n : Int) 100 = 100 := by omega
  go_enter Tryz.func5, Tryz.ntmps5
  go_wp2
  go_ret
  exact ⟨rfl, rfl⟩
theorem few_any (A : Option Addr) (C : Nat) (xs : List Int) (w0 w : World) (hS : Sl w0 A xs) (h1 : xs.length ≤ C) (hC : C ≤ 9223372036854775807) : Calls Tryz.prog 5 #[.slice A xs.length C] w fun e w' => e = .returned (.slice A (xs.take 100).length C) ∧ w = w' := by
  cases A with
  | none =>
    have hx : xs = [] := by
      cases xs with
      | nil => rfl
      | cons a r => obtain ⟨b, o, e, _⟩ := hS 0 (by simp); cases e
    subst hx
    exact few_nil C w
  | some a =>
    by_cases h : xs.length ≤ 100
    · rw [List.take_of_length_le h]
      exact few_all a _ C h1 h hC w
    · rw [show (xs.take 100).length = 100 by simp; omega]
      exact few_cut a _ C h1 (by omega) hC w
theorem Sl.few {w : World} {A : Option Addr} {xs : List Int} (h : Sl w A xs) : Sl w A (xs.take 100) := by
  intro k hk
  have hk2 : k < xs.length ∧ k < 100 := by simp at hk; omega
  obtain ⟨b, o, e, hc⟩ := h k hk2.1
  refine ⟨b, o, e, ?_⟩
  rw [hc, gd_at hk2.1, gd_at hk]
  simp
theorem same_self (A B : Option Addr) (c d : Nat) (V : List Int) (w : World) (hl : V.length ≤ 100000) (hx : Sl w A V) (hy : Sl w B V) :
    Calls Tryz.prog 12 #[.slice A V.length c, .slice B V.length d] w fun e w' => e = .returned (.bool true) ∧ Below w.heap.size w w' :=
  (same_any A B c d V V w hl hl hx hy).mono fun e w' ⟨he, n, hw⟩ => ⟨by rw [he]; simp, by rw [hw]; exact below_drewN' (Below.refl _ _) n⟩
/-- What Split gives: a list of ints that can be read, and an error. -/
def Gives (V : List Int) (g : Int) (W : World) (x : Ending) (w' : World) : Prop := ∃ B, x = .returned (.tuple #[.slice B V.length V.length, .int .i64 g]) ∧ Sl w' B V ∧ Below W.heap.size W w'
theorem gives_ok {c : Int} {ws : List Int} {W : World} {x : Ending} {w' : World} (h : SplitOk c ws W x w') : Gives (parts c ws) 0 W x w' := by
  obtain ⟨pb, h1, _, h3, h4⟩ := h
  have hl : (parts c ws).length = ws.length := by simp [parts]
  exact ⟨some ⟨pb, 0, none⟩, by rw [hl]; exact h1, h3.sl hl fun j hj => by
    unfold parts gd
    simp [List.getD_eq_getElem?_getD, hj], h4⟩
theorem gives_bad {W : World} {x : Ending} {w' : World} (h : x = .returned (.tuple #[.slice none 0 0, .int .i64 1]) ∧ W = w') : Gives [] 1 W x w' := by
  obtain ⟨h1, rfl⟩ := h
  exact ⟨none, h1, fun k hk => absurd hk (by simp), Below.refl _ _⟩
open Go.ChangeShapes Go.WideShapes Go.ChangeAt Go.RowKit
open Go.RowKit (Below)
set_option maxRecDepth 100000 in
theorem open_list2 {H : Type} {enc : TypeId × Value → H} {W : World} {base : Nat} {v : Value} {d : DataW H} {p : List MemPlace} (hv : Value.okWide Tryz.prog W .any base 22 v) (h : DataW.Trod enc Tryz.prog W 0 (fun _ => true) true 22 v d p) :
    ∃ (A : Option Addr) (cap : Nat) (xs : List Int), v = .slice A xs.length cap ∧ Sl W A xs ∧ xs.length ≤ 9223372036854775807 ∧ (∀ x ∈ xs, I64 x) ∧ (xs.length ≤ cap ∧ cap ≤ 9223372036854775807) ∧
      ∀ (W' : World) (sp : Nat → Bool), Below W.heap.size W W' → (∀ q ∈ p, sp q.block = true) → DataW.Trod enc Tryz.prog W' 0 sp true 22 v d p := by
  obtain ⟨a0, len, cap, rfl⟩ := okWide_slice Tryz.underlying22 hv
  obtain ⟨fuel, hf⟩ := h
  rcases open_ints Tryz.underlying22 Tryz.underlying3 cellsInt hf with ⟨hcs, hx⟩ | ⟨a, len', cap', zs, hcs, _, hl, hm, hz, hx, hcell, hwz⟩
  · simp [Value.cells] at hcs
    obtain ⟨rfl, rfl, rfl⟩ := hcs
    simp only [Prod.mk.injEq] at hx
    obtain ⟨rfl, rfl⟩ := hx
    exact ⟨none, 0, [], rfl, fun k hk => absurd hk (by simp), by simp, by simp, by simp, fun W' sp _ _ => shut_slice_nil Tryz.underlying22⟩
  · simp [Value.cells] at hcs
    obtain ⟨rfl, rfl, rfl⟩ := hcs
    simp only [Prod.mk.injEq] at hx
    obtain ⟨rfl, rfl⟩ := hx
    simp only [if_true] at hz
    have hlen : (zs.take len).length = len := by simp; omega
    refine ⟨some a, cap, zs.take len, by rw [hlen], ?_, by rw [hlen]; unfold maxLen at hm; omega, fun x hx => wf_i (hwz x (List.mem_of_mem_take hx)), ⟨by rw [hlen]; exact hl, by unfold maxLen at hm; omega⟩, ?_⟩
    · intro k hk
      rw [hlen] at hk
      have hc := hcell k (by omega)
      obtain ⟨b, off, spot⟩ := a
      have hspot : spot = none := by simpa [Addr.add] using World.cell?_spot (hcell 0 (by omega))
      subst hspot
      refine ⟨b, off, rfl, ?_⟩
      rw [← add_plain, hc]
      unfold gd
      simp [List.getD_eq_getElem?_getD, hk]
    · intro W' sp hb hsp
      have hcell' : ∀ i, i < zs.length → W'.cell? (a.add i) = some (.int .i64 (zs.getD i 0)) := fun i hi => by
        rw [hb.cell (block_lt (hcell i hi))]; exact hcell i hi
      by_cases hz0 : zs.length = 0
      · have hc0 : cap = 0 := by omega
        have hl0 : len = 0 := by omega
        subst hc0; subst hl0
        have t0 := shut_ints (enc := enc) (w := W') (base := 0) (spare := sp) (held := true) (a := a) (len := 0) (cap := 0) (zs := zs) 0 Tryz.underlying22 Tryz.underlying3 cellsInt (Nat.zero_le _) (Nat.le_refl _) hm (by simp [hz0]) hcell' hwz
        exact ⟨2, by simpa [Value.cells] using t0⟩
      · have hspb : sp a.block = true := by
          have := hsp (.cell a.block a.off) (MemPlace.mem_row.2 ⟨0, by omega, by simp⟩)
          exact this
        have t0 := shut_ints (enc := enc) (w := W') (base := 0) (spare := sp) (held := true) (a := a) (len := len) (cap := cap) (zs := zs) 0 Tryz.underlying22 Tryz.underlying3 cellsInt (Nat.zero_le _) hl hm (by simp [hspb, hz]) hcell' hwz
        exact ⟨2, by simpa [Value.cells] using t0⟩
end Go.Proofs.YtanncjkkaeeiaaaGreatDoor
