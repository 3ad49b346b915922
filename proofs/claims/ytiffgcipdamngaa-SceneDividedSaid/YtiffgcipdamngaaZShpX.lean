/-
  The laws: head, comparisons of rational numbers, vectors that come in.
-/
import Derived.Test.YtiffgcipdamngaaZShpPQ
import Derived.Test.YtiffgcipdamngaaZShpPG
import Derived.Test.YtiffgcipdamngaaZShpPK
import Derived.Test.YtiffgcipdamngaaZShpPS
import Derived.Laws.CopyRow
import Derived.Laws.CopyOwn
import Derived.Laws.MakeOwn
import Derived.StillTailTactics
import Derived.Deep.SlicePairs
import Derived.Test.YtiffgcipdamngaaZShpF
import Derived.Test.YtiffgcipdamngaaZShpD
import Derived.Deep.RegionHeld3
import Derived.Test.YtiffgcipdamngaaZShpW
namespace Go.Proofs.Ytiffgcipdamngaa
open Go.RowKit Go.Sort
open Go.RowKit (Below)
set_option linter.unusedVariables false
set_option linter.unusedSimpArgs false

theorem rat_eq {a b x y : Int} {r : Bool} (h : decide (a = x ∧ b = y) = r) (w : World) : (binOp .eql 32 (.agg #[.int .i64 a, .int .i64 b]) (.agg #[.int .i64 x, .int .i64 y])).run Try.prog w = .ok (.bool r) w := by
  subst h
  by_cases h1 : a = x
  · by_cases h2 : b = y
    · subst h1 h2; simp [go_sem]
    · simp [go_sem, h1, h2]
  · simp [go_sem, h1]
/-- The square of the chapter's examples, and where it is moved. -/
def sq : List (Int × Int) := [(0, 0), (10, 0), (10, 10), (0, 10)]


theorem four {P : Nat → Prop} (h0 : P 0) (h1 : P 1) (h2 : P 2) (h3 : P 3) : ∀ i, i < 4 → P i := by
  intro i hi
  have : i = 0 ∨ i = 1 ∨ i = 2 ∨ i = 3 := by omega
  rcases this with rfl | rfl | rfl | rfl <;> assumption
theorem cvx4 {X Y : Nat → Int} (h : ∀ i, i < 4 → ∀ j, j < 4 → j ≠ i → j ≠ nx 4 i → 0 < tr X Y i (nx 4 i) j) : Cvx 4 X Y := fun i j hi hj a b => h i hi j hj a b
theorem bok_sq : Bok sq 0 10 := by
  constructor
  · decide
  · decide
  · exact four (by unfold co; decide) (by unfold co; decide) (by unfold co; decide) (by unfold co; decide)
  · exact four (by unfold co; decide) (by unfold co; decide) (by unfold co; decide) (by unfold co; decide)
  · unfold co; decide
  · unfold co; decide
  · decide
  · exact fun i h0 h => four (P := fun i => 0 < i → px sq 0 < px sq i ∨ (px sq 0 = px sq i ∧ py sq 0 < py sq i)) (by decide) (by decide) (by decide) (by decide) i h h0
  · exact cvx4 (four (four (by decide) (by decide) (by decide) (by decide)) (four (by decide) (by decide) (by decide) (by decide)) (four (by decide) (by decide) (by decide) (by decide)) (four (by decide) (by decide) (by decide) (by decide)))
















section
variable (g : Nat) (C : Nat) (w : World)


theorem hval (h : SlS w (some ⟨g, 0, none⟩) sq) : Calls Try.prog 41 #[.agg #[.slice (some ⟨g, 0, none⟩) 4 C, .int .i64 0, .int .i64 10]] w fun e_ w' => e_ = .returned (.bool true) ∧ Below w.heap.size w w' := pvalid_is _ C sq 0 10 (by decide) true (iff_of_true rfl bok_sq) w h
end

section
open Go.ChangeShapes Go.WideShapes Go.ChangeAt Go.Joins
theorem cells_vec : Try.prog.cellsOf 27 = 3 := by kernel_rfl
variable {H : Type} {enc : TypeId × Value → H}
set_option maxRecDepth 100000 in
theorem open_vec {W : World} {base : Nat} {sp : Nat → Bool} {held : Bool} {v : Value} {d : DataW H} {p : List MemPlace} (hv : Value.okWide Try.prog W .any base 27 v) (h : DataW.Trod enc Try.prog W 0 sp held 27 v d p) :
    ∃ a b c : Int, v = .agg #[.int .i64 a, .int .i64 b, .int .i64 c] ∧ d = .agg [.lit (.int .i64 a), .lit (.int .i64 b), .lit (.int .i64 c)] ∧ p = [] ∧ (Lit.int .i64 a).wf = true ∧ (Lit.int .i64 b).wf = true ∧ (Lit.int .i64 c).wf = true := by
  obtain ⟨c0, c1, c2, y0, y1, y2, m, rfl, rfl, rfl, hy0, hy1, hy2⟩ := open_agg3 Try.underlying27 (by kernel_rfl) cells_vec hv h
  obtain ⟨a, e0, rfl, wa⟩ := DataW.trod_int Try.underlying3 hy0
  obtain ⟨b, e1, rfl, wb⟩ := DataW.trod_int Try.underlying3 hy1
  obtain ⟨c, e2, rfl, wc⟩ := DataW.trod_int Try.underlying3 hy2
  simp at e0 e1 e2
  subst e0 e1 e2
  exact ⟨a, b, c, rfl, rfl, rfl, wa, wb, wc⟩
set_option maxRecDepth 100000 in
theorem shut_vec {W : World} {sp : Nat → Bool} {held : Bool} {a b c : Int} (wa : (Lit.int .i64 a).wf = true) (wb : (Lit.int .i64 b).wf = true) (wc : (Lit.int .i64 c).wf = true) :
    DataW.Trod enc Try.prog W 0 sp held 27 (.agg #[.int .i64 a, .int .i64 b, .int .i64 c]) (.agg [.lit (.int .i64 a), .lit (.int .i64 b), .lit (.int .i64 c)]) [] :=
  shut_agg3 (y0 := (.lit (.int .i64 a), [])) (y1 := (.lit (.int .i64 b), [])) (y2 := (.lit (.int .i64 c), [])) Try.underlying27 (by kernel_rfl) cells_vec ⟨1, by simp [DataW.trod, Try.underlying3, wa]⟩ ⟨1, by simp [DataW.trod, Try.underlying3, wb]⟩ ⟨1, by simp [DataW.trod, Try.underlying3, wc]⟩
end
end Go.Proofs.Ytiffgcipdamngaa
