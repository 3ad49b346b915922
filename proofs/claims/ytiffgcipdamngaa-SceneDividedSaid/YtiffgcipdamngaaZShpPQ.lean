/-
  Package shape: Clip, in one.
-/
import Derived.Test.YtiffgcipdamngaaZShpPL
namespace Go.Proofs.Ytiffgcipdamngaa
open Go.RowKit Go.Sort
open Go.RowKit (Below)
set_option linter.unusedVariables false
set_option linter.unusedSimpArgs false

/-- What Clip answers. -/
def ClR (xs : List (Int × Int)) (lo hi a b c d e f : Int) (R : Cln) (E : Int) : Prop :=
  (¬ (Bok xs lo hi ∧ V3 a b c ∧ V3 d e f ∧ ¬ (a = d ∧ b = e ∧ c = f)) ∧ E = 1 ∧ R = ⟨0, 0, 0, 0, false⟩) ∨
  (Bok xs lo hi ∧ V3 a b c ∧ V3 d e f ∧ ¬ (a = d ∧ b = e ∧ c = f) ∧ E = 0 ∧ clres (clp r0 (cnd xs lo hi a b c d e f)) = R)
theorem vv_no {a b c : Int} (h : ¬ V3 a b c) : vv a b c = false := by
  cases hh : vv a b c
  · rfl
  · exact absurd (vv_iff.1 hh) h
theorem pclip_is (A : Option Addr) (C : Nat) (xs : List (Int × Int)) (lo hi a b c d e f : Int) (hlx : xs.length ≤ 9223372036854775806) (R : Cln) (E : Int) (hE : ClR xs lo hi a b c d e f R E) (w : World) (hl : SlS w A xs) :
    Calls Try.prog 84 #[.agg #[.slice A xs.length C, .int .i64 lo, .int .i64 hi], .agg #[.int .i64 a, .int .i64 b, .int .i64 c], .agg #[.int .i64 d, .int .i64 e, .int .i64 f]] w fun e_ w' => e_ = .returned (.tuple #[.agg #[.int .i64 R.a, .int .i64 R.b], .agg #[.int .i64 R.c, .int .i64 R.d], .bool R.h, .int .i64 E]) ∧ Below w.heap.size w w' := by
  rcases hE with ⟨h, rfl, rfl⟩ | ⟨hb, h1, h2, he, rfl, hR⟩
  · by_cases hb : Bok xs lo hi
    · by_cases h1 : V3 a b c
      · by_cases h2 : V3 d e f
        · by_cases he : a = d ∧ b = e ∧ c = f
          · exact pc_4 A C xs lo hi a b c d e f hlx (by simp [hb]) (vv_iff.2 h1) (vv_iff.2 h2) he w hl
          · exact absurd ⟨hb, h1, h2, he⟩ h
        · exact pc_3 A C xs lo hi a b c d e f hlx (by simp [hb]) (vv_iff.2 h1) (vv_no h2) w hl
      · exact pc_2 A C xs lo hi a b c d e f hlx (by simp [hb]) (vv_no h1) w hl
    · exact pc_1 A C xs lo hi a b c d e f hlx (by simp [hb]) w hl
  · exact pc_5 A C xs lo hi a b c d e f hlx (by simp [hb]) (vv_iff.2 h1) (vv_iff.2 h2) he R hR w hl
end Go.Proofs.Ytiffgcipdamngaa
