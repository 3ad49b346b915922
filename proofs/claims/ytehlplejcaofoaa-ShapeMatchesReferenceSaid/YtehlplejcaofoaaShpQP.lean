/-
  The reference: Move, in one.
-/
import Derived.Test.YtehlplejcaofoaaShpQO
import Derived.Test.YtehlplejcaofoaaShpPQ
namespace Go.Proofs.Ytehlplejcaofoaa
open Go.RowKit Go.Sort
open Go.RowKit (Below)
set_option linter.unusedVariables false
set_option linter.unusedSimpArgs false

theorem qmove_is (A : Option Addr) (C : Nat) (xs : List (Int × Int)) (lo hi x y z : Int) (hlx : xs.length ≤ 9223372036854775806) (E : Int) (hE : MvE xs lo hi x y z E) (w : World) (hl : SlS w A xs) :
    Calls Try.prog 21 #[.agg #[.slice A xs.length C, .int .i64 lo, .int .i64 hi], .agg #[.int .i64 x, .int .i64 y, .int .i64 z]] w fun e_ w' => MvQ xs lo hi x y z E w e_ w' := by
  rcases hE with ⟨h, rfl⟩ | ⟨hb, hv, h⟩
  · have fin : ∀ e_ w', (e_ = .returned (.tuple #[.agg #[.slice none 0 0, .int .i64 0, .int .i64 0], .int .i64 1]) ∧ Below w.heap.size w w') → MvQ xs lo hi x y z 1 w e_ w' := fun e_ w' ⟨k, hw⟩ => ⟨fun h => absurd h (by decide), fun _ => k, hw⟩
    by_cases hb : Bok xs lo hi
    · by_cases hv : V3 x y z
      · exact absurd ⟨hb, hv⟩ h
      · exact (qm_2 A C xs lo hi x y z hlx (by simp [hb]) (vv_no hv) w hl).mono fin
    · by_cases hv : V3 x y z
      · exact (qm_1 A C xs lo hi x y z hlx (by simp [hb]) (vv_iff.2 hv) w hl).mono fin
      · exact (qm_0 A C xs lo hi x y z hlx (by simp [hb]) (vv_no hv) w hl).mono fin
  · have hpos : 0 < xs.length := by have := hb.n3; omega
    obtain ⟨b0, o0, rfl, _, _⟩ := hl 0 hpos
    rcases h with ⟨hm, rfl⟩ | ⟨hm, rfl⟩
    · refine (qm_3 b0 o0 C xs lo hi x y z hlx (by simp [hb]) (vv_iff.2 hv) true (by simp [hm]) w hl).mono ?_
      rintro e_ w' ⟨h1, h2, hw⟩
      exact ⟨fun _ => h1 rfl, fun h => absurd rfl h, hw⟩
    · refine (qm_3 b0 o0 C xs lo hi x y z hlx (by simp [hb]) (vv_iff.2 hv) false (by simp [hm]) w hl).mono ?_
      rintro e_ w' ⟨h1, h2, hw⟩
      exact ⟨fun h => absurd h (by decide), fun _ => h2 rfl, hw⟩
end Go.Proofs.Ytehlplejcaofoaa
