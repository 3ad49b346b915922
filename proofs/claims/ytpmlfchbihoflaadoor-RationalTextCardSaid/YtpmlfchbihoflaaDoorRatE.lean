/-
  Package rational: requireValid returns if all are numbers, and raises ErrArg otherwise; the four operations; the closures of Make and combine.
-/
import Derived.Test.YtpmlfchbihoflaaDoorRatD
namespace Go.Proofs.YtpmlfchbihoflaaDoor
open Go.RowKit

/-- An int. -/
def I64 (x : Int) : Prop := -9223372036854775808 ≤ x ∧ x ≤ 9223372036854775807

theorem valid_b (n d : Int) (b : Bool) (h : vld n d = b) (w : World) (hn : I64 n) (hd : I64 d) :
    Calls Tryd.prog 6 #[.agg #[.int .i64 n, .int .i64 d]] w fun e w' => e = .returned (.bool b) ∧ Below w.heap.size w w' := by
  subst h; exact valid_any n d w hn.1 hn.2 hd.1 hd.2

set_option maxRecDepth 100000 in
set_option maxHeartbeats 400000 in
theorem require_ok (b len : Nat) (N D : Nat → Int) (w : World) (hm : len ≤ 9223372036854775807) (hN : ∀ i, I64 (N i)) (hD : ∀ i, I64 (D i)) (hb : b < w.heap.size)
    (hc : ∀ i, i < len → w.cell? ⟨b, i * 2, none⟩ = some (.int .i64 (N i)) ∧ w.cell? ⟨b, i * 2 + 1, none⟩ = some (.int .i64 (D i)))
    (hv : ∀ i, i < len → vld (N i) (D i) = true) :
    Calls Tryd.prog 41 #[.slice (some ⟨b, 0, none⟩) len len] w fun e w' => e = .returned (.tuple #[]) ∧ Below w.heap.size w w' := by
  have HC := Lib.hid hc; clear hc
  have HV := Lib.hid hv; clear hv
  have HN := Lib.hid hN; clear hN
  have HD := Lib.hid hD; clear hD
  go_enter Tryd.func41, Tryd.ntmps41
  go_wp2
  go_loopw [6] (fun i wr => ∃ k : Nat, k ≤ len ∧ i = .int .i64 k ∧ Below w.heap.size w wr) (fun i _ => len - (intOf i).toNat)
  case atStart => exact ⟨0, Nat.zero_le _, rfl, Below.refl _ _⟩
  case round =>
    obtain ⟨k, hk, rfl, hbw⟩ := hrel
    by_cases hlt : k < len
    · skip
      obtain ⟨g0, g1⟩ := HC.out k (by omega)
      have c0 := hbw.cell (p := ⟨b, k * 2, none⟩) hb
      have c1 := hbw.cell (p := ⟨b, k * 2 + 1, none⟩) hb
      rw [g0] at c0
      rw [g1] at c1
      clear g0 g1
      go_wp2_with fail
      refine (valid_b _ _ true (HV.out k hlt) _ (HN.out k) (HD.out k)).mono ?_
      rintro e w1 ⟨rfl, hb1⟩
      have hb2 : Below w.heap.size w w1 := (hbw.alloc hbw.size _).trans (hb1.mono (by have := hbw.size; simp; omega))
      go_wp2_with fail
      go_roundw
      case rel => exact ⟨k + 1, by omega, by go_num, hb2⟩
      case measure => simp [intOf]; omega
    · go_wp2
      go_end0
      exact ⟨rfl, hbw⟩

set_option maxRecDepth 100000 in
set_option maxHeartbeats 400000 in
theorem require_err (b len : Nat) (N D : Nat → Int) (w : World) (hm : len ≤ 9223372036854775807) (hN : ∀ i, I64 (N i)) (hD : ∀ i, I64 (D i)) (hb : b < w.heap.size)
    (hc : ∀ i, i < len → w.cell? ⟨b, i * 2, none⟩ = some (.int .i64 (N i)) ∧ w.cell? ⟨b, i * 2 + 1, none⟩ = some (.int .i64 (D i)))
    (m : Nat) (hml : m < len) (hv : ∀ i, i < m → vld (N i) (D i) = true) (hx : vld (N m) (D m) = false) :
    Calls Tryd.prog 41 #[.slice (some ⟨b, 0, none⟩) len len] w fun e w' => e = raise 1 ∧ Below w.heap.size w w' := by
  have HC := Lib.hid hc; clear hc
  have HV := Lib.hid hv; clear hv
  have HN := Lib.hid hN; clear hN
  have HD := Lib.hid hD; clear hD
  have HX := Lib.hid hx; clear hx
  go_enter Tryd.func41, Tryd.ntmps41
  go_wp2
  go_loopw [6] (fun i wr => ∃ k : Nat, k ≤ m ∧ i = .int .i64 k ∧ Below w.heap.size w wr) (fun i _ => len - (intOf i).toNat)
  case atStart => exact ⟨0, Nat.zero_le _, rfl, Below.refl _ _⟩
  case round =>
    obtain ⟨k, hk, rfl, hbw⟩ := hrel
    by_cases hlt : k < m
    · have hlt2 : k < len := by omega
      obtain ⟨g0, g1⟩ := HC.out k (by omega)
      have c0 := hbw.cell (p := ⟨b, k * 2, none⟩) hb
      have c1 := hbw.cell (p := ⟨b, k * 2 + 1, none⟩) hb
      rw [g0] at c0
      rw [g1] at c1
      clear g0 g1
      go_wp2_with fail
      refine (valid_b _ _ true (HV.out k hlt) _ (HN.out k) (HD.out k)).mono ?_
      rintro e w1 ⟨rfl, hb1⟩
      have hb2 : Below w.heap.size w w1 := (hbw.alloc hbw.size _).trans (hb1.mono (by have := hbw.size; simp; omega))
      go_wp2_with fail
      go_roundw
      case rel => exact ⟨k + 1, by omega, by go_num, hb2⟩
      case measure => simp [intOf]; omega
    · obtain rfl : k = m := by omega
      have hlt2 : k < len := hml
      obtain ⟨g0, g1⟩ := HC.out k (by omega)
      have c0 := hbw.cell (p := ⟨b, k * 2, none⟩) hb
      have c1 := hbw.cell (p := ⟨b, k * 2 + 1, none⟩) hb
      rw [g0] at c0
      rw [g1] at c1
      clear g0 g1
      go_wp2_with fail
      refine (valid_b _ _ false HX.out _ (HN.out k) (HD.out k)).mono ?_
      rintro e w1 ⟨rfl, hb1⟩
      have hb2 : Below w.heap.size w w1 := (hbw.alloc hbw.size _).trans (hb1.mono (by have := hbw.size; simp; omega))
      go_wp2
      exact ⟨rfl, rfl, hb2⟩

end Go.Proofs.YtpmlfchbihoflaaDoor
