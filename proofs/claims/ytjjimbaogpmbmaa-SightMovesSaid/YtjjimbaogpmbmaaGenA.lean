/-
  Plain tools, no function of the program: numbers that an int holds, worlds that grow, cells, rows of ints and slices of ints.
-/
import Derived.Test.YtjjimbaogpmbmaaRows
import Derived.WalkKit
import Derived.WalkSpells
import Derived.WalkLawsBesides
import Derived.Deep.QuietTactic
import Derived.BigQuiet
import Derived.Deep.RegionHeld3
import Derived.Deep.RegionWith
import Derived.Sort.Grow
import Derived.Lib.Hide
import Derived.Deep.LoopGhost
import Derived.Deep.Light
import Derived.Deep.DeepCutAuto
import Derived.OwnWalk
import Derived.Laws.OwnMore
namespace Go.Proofs.Ytjjimbaogpmbmaa
open Go.RowKit Go.Sort
open Go.RowKit (Below)

theorem ret_int {k : IntKind} {a b : Int} (h : a = b) : Ending.returned (.int k a) = .returned (.int k b) := by rw [h]
theorem ret_val {k : IntKind} {a b : Int} (h : a = b) : Value.int k a = .int k b := by rw [h]
def I64 (x : Int) : Prop := -9223372036854775808 ≤ x ∧ x ≤ 9223372036854775807
theorem i64_of {x : Int} (h1 : -9223372036854775808 ≤ x) (h2 : x ≤ 9223372036854775807) : I64 x := ⟨h1, h2⟩
theorem bcell {W w1 : World} (hb : Below W.heap.size W w1) : (∀ b o, b < W.heap.size → w1.cell? ⟨b, o, none⟩ = W.cell? ⟨b, o, none⟩) ∧ (∀ b o, b < W.heap.size → w1.frozen? ⟨b, o, none⟩ = W.frozen? ⟨b, o, none⟩) :=
  ⟨fun b o h => hb.cell (p := ⟨b, o, none⟩) h, fun b o h => hb.frozen (p := ⟨b, o, none⟩) h⟩
theorem below_drewN' {B : Nat} {a w : World} (h : Below B a w) (n : Nat) : Below B a (w.drewN n) := h.trans ⟨rfl, rfl, rfl, Nat.le_refl _, fun _ _ => rfl⟩
theorem quiet_left {P : Program} {f : FuncId} {args : Array Value} {w : World} {n : Nat} {v : Value}
    (h : Calls P f args (w.drewN n) fun e w' => e = .returned v ∧ w.drewN n = w') : Calls P f args (w.drewN n) fun e w'' => e = .returned v ∧ ∃ m, w'' = w.drewN m :=
  h.mono fun _ _ ⟨he, hm⟩ => ⟨he, n, hm.symm⟩
theorem ret_bool {a b : Bool} (h : a = b) : Ending.returned (.bool a) = .returned (.bool b) := by rw [h]
theorem ret_two {k k' : IntKind} {a b c d : Int} (h : a = b) (h' : c = d) : Ending.returned (.tuple #[.int k a, .int k' c]) = .returned (.tuple #[.int k b, .int k' d]) := by rw [h, h']
theorem ret_three {k k' k'' : IntKind} {a b c d x y : Int} (h : a = b) (h' : c = d) (h'' : x = y) : Ending.returned (.tuple #[.int k a, .int k' c, .int k'' x]) = .returned (.tuple #[.int k b, .int k' d, .int k'' y]) := by rw [h, h', h'']
theorem ret_str {a b : ByteArray} (h : a = b) : Ending.returned (.string a) = .returned (.string b) := by rw [h]
theorem block_lt {w : World} {a : Addr} {v : Value} (h : w.cell? a = some v) : a.block < w.heap.size := by
  refine Nat.lt_of_not_le fun hle => ?_
  unfold World.cell? at h
  rw [Array.getElem?_eq_none hle] at h
  cases h
/-- Block g holds the pair N, D. -/
def Pr (w : World) (g : Nat) (N D : Int) : Prop := w.cell? ⟨g, 0, none⟩ = some (.int .i64 N) ∧ w.cell? ⟨g, 1, none⟩ = some (.int .i64 D)
theorem Pr.on {w w' : World} {g : Nat} {N D : Int} (p : Pr w g N D) (hb : Below w.heap.size w w') : Pr w' g N D :=
  ⟨by rw [hb.cell (block_lt p.1)]; exact p.1, by rw [hb.cell (block_lt p.2)]; exact p.2⟩
theorem Pr.lt {w : World} {g : Nat} {N D : Int} (p : Pr w g N D) : g < w.heap.size := block_lt p.1
theorem Pr.alloc {w : World} {g : Nat} {N D : Int} (p : Pr w g N D) (o : Obj) : Pr (w.alloc o) g N D :=
  p.on ((Below.refl _ _).alloc (Nat.le_refl _) _)
theorem Pr.next {w w' : World} {o : Obj} {g : Nat} {N D : Int} (p : Pr w g N D) (hb : Below (w.alloc o).heap.size (w.alloc o) w') : Pr w' g N D := (p.alloc o).on hb
theorem Pr.here (w : World) (N D : Int) (t : TypeId) : Pr (w.alloc (.cells #[.int .i64 N, .int .i64 D] t)) w.heap.size N D := ⟨by simp [go_sem], by simp [go_sem]⟩
theorem Pr.new {w w' : World} {N D : Int} {t : TypeId} (hb : Below (w.alloc (.cells #[.int .i64 N, .int .i64 D] t)).heap.size (w.alloc (.cells #[.int .i64 N, .int .i64 D] t)) w') : Pr w' w.heap.size N D := (Pr.here w N D t).on hb

/-- Block g holds the pair N, D, and may be written. -/
def Lc (w : World) (g : Nat) (N D : Int) : Prop := Pr w g N D ∧ w.frozen? ⟨g, 0, none⟩ = false ∧ w.frozen? ⟨g, 1, none⟩ = false
theorem Lc.on {w w' : World} {g : Nat} {N D : Int} (p : Lc w g N D) (hb : Below w.heap.size w w') : Lc w' g N D :=
  ⟨p.1.on hb, by rw [hb.frozen (block_lt p.1.1)]; exact p.2.1, by rw [hb.frozen (block_lt p.1.2)]; exact p.2.2⟩
theorem Lc.next {w w' : World} {o : Obj} {g : Nat} {N D : Int} (p : Lc w g N D) (hb : Below (w.alloc o).heap.size (w.alloc o) w') : Lc w' g N D :=
  (p.on ((Below.refl _ _).alloc (Nat.le_refl _) o)).on hb
theorem Lc.here (w : World) (N D : Int) (t : TypeId) : Lc (w.alloc (.cells #[.int .i64 N, .int .i64 D] t)) w.heap.size N D := ⟨Pr.here w N D t, by simp [go_sem], by simp [go_sem]⟩
theorem Lc.new {w w' : World} {N D : Int} {t : TypeId} (hb : Below (w.alloc (.cells #[.int .i64 N, .int .i64 D] t)).heap.size (w.alloc (.cells #[.int .i64 N, .int .i64 D] t)) w') : Lc w' w.heap.size N D := (Lc.here w N D t).on hb
theorem Lc.lt {w : World} {g : Nat} {N D : Int} (p : Lc w g N D) : g < w.heap.size := p.1.lt

section
variable {w w' : World} {g h : Nat} {N D x y : Int}
theorem Pr.set (p : Pr w g N D) (ne : g ≠ h) : Pr ((w.setCell ⟨h, 0, none⟩ (.int .i64 x)).setCell ⟨h, 1, none⟩ (.int .i64 y)) g N D :=
  ⟨by rw [World.cell?_setCell_far _ _ _ _ (by simp; omega), World.cell?_setCell_far _ _ _ _ (by simp; omega)]; exact p.1,
   by rw [World.cell?_setCell_far _ _ _ _ (by simp; omega), World.cell?_setCell_far _ _ _ _ (by simp; omega)]; exact p.2⟩
theorem Lc.set (p : Lc w g N D) (ne : g ≠ h) : Lc ((w.setCell ⟨h, 0, none⟩ (.int .i64 x)).setCell ⟨h, 1, none⟩ (.int .i64 y)) g N D :=
  ⟨p.1.set ne, by rw [World.frozen?_setCell, World.frozen?_setCell]; exact p.2.1, by rw [World.frozen?_setCell, World.frozen?_setCell]; exact p.2.2⟩
theorem Lc.put (p : Lc w g N D) : Lc ((w.setCell ⟨g, 0, none⟩ (.int .i64 x)).setCell ⟨g, 1, none⟩ (.int .i64 y)) g x y := by
  obtain ⟨⟨c0, c1⟩, f0, f1⟩ := p
  refine ⟨⟨?_, ?_⟩, by rw [World.frozen?_setCell, World.frozen?_setCell]; exact f0, by rw [World.frozen?_setCell, World.frozen?_setCell]; exact f1⟩
  · simp [go_sem, c0]
  · simp [go_sem, c1]
theorem on_set {w0 : World} (b : Below w0.heap.size w0 w) (hh : w0.heap.size ≤ h) (hb : Below ((w.setCell ⟨h, 0, none⟩ (.int .i64 x)).setCell ⟨h, 1, none⟩ (.int .i64 y)).heap.size ((w.setCell ⟨h, 0, none⟩ (.int .i64 x)).setCell ⟨h, 1, none⟩ (.int .i64 y)) w') :
    Below w0.heap.size w0 w' ∧ w.heap.size ≤ w'.heap.size :=
  ⟨((b.setCell hh _).setCell hh _).trans (hb.mono (by have := b.size; simp; omega)), by have := hb.size; simpa using this⟩
end

/-- Behind a call that follows a new block: what the new block and the elder ones hold is held on. -/
theorem on_new {w w1 w2 : World} {o : Obj} (b : Below w.heap.size w w1) (hb : Below (w1.alloc o).heap.size (w1.alloc o) w2) : Below w.heap.size w w2 ∧ w1.heap.size < w2.heap.size :=
  ⟨(b.alloc b.size _).trans (hb.mono (by have := b.size; simp; omega)), by have := hb.size; simp at this; omega⟩
theorem on_same {w w1 w2 : World} (b : Below w.heap.size w w1) (hb : Below w1.heap.size w1 w2) : Below w.heap.size w w2 ∧ w1.heap.size ≤ w2.heap.size :=
  ⟨b.trans (hb.mono b.size), hb.size⟩

def gd (xs : List Int) (k : Nat) : Int := xs.getD k 0
theorem gd_at {xs : List Int} {k : Nat} (h : k < xs.length) : gd xs k = xs[k] := by simp [gd, List.getD_eq_getElem?_getD, h]
/-- The slice at A reads as xs. -/
def Sl (w : World) (A : Option Addr) (xs : List Int) : Prop := ∀ k, k < xs.length → ∃ b o, A = some ⟨b, o, none⟩ ∧ w.cell? ⟨b, o + k, none⟩ = some (.int .i64 (gd xs k))
theorem getD_mem {xs : List Int} {k : Nat} (h : k < xs.length) : gd xs k ∈ xs := by
  simp [gd_at h]
/-- Block b holds f 0, f 1, .. up to n, and may be written. -/
def Row (w : World) (b n : Nat) (f : Nat → Int) : Prop := ∀ j, j < n → w.cell? ⟨b, j, none⟩ = some (.int .i64 (f j)) ∧ w.frozen? ⟨b, j, none⟩ = false

section
variable {w w' : World} {b n : Nat} {f g : Nat → Int}
theorem Row.same (h : Row w b n f) (hb : w'.heap[b]? = w.heap[b]?) : Row w' b n f := fun j hj =>
  ⟨by rw [World.cell?_of_block (a := ⟨b, j, none⟩) hb]; exact (h j hj).1, by rw [World.frozen?_of_block (a := ⟨b, j, none⟩) hb]; exact (h j hj).2⟩
theorem Row.lt (h : Row w b n f) (hn : 0 < n) : b < w.heap.size := block_lt (h 0 hn).1
theorem Row.below (h : Row w b n f) {B : Nat} (hb : Below B w w') (hB : b < B) : Row w' b n f := h.same (hb.block b hB)
theorem Row.drewN (h : Row w b n f) (k : Nat) : Row (w.drewN k) b n f := h
theorem Row.drew (h : Row w b n f) : Row w.drew b n f := h
theorem Row.alloc (h : Row w b n f) (hb : b < w.heap.size) (o : Obj) : Row (w.alloc o) b n f := h.same (Below.heap_alloc w o b hb)
theorem Row.far (h : Row w b n f) {p : Addr} (hp : b ≠ p.block) (v : Value) : Row (w.setCell p v) b n f := h.same (Below.heap_setCell w p v b hp)
theorem Row.congr (h : Row w b n f) (e : ∀ j, j < n → f j = g j) : Row w b n g := fun j hj => by rw [← e j hj]; exact h j hj
theorem Row.set (h : Row w b n f) {k : Nat} (hk : k < n) (v : Int) : Row (w.setCell ⟨b, k, none⟩ (.int .i64 v)) b n (fun j => if j = k then v else f j) := by
  intro j hj
  refine ⟨?_, by rw [World.frozen?_setCell]; exact (h j hj).2⟩
  by_cases e : j = k
  · subst e
    have h1 := (h j hj).1
    simp only [if_true]
    simp [go_sem, h1]
  · rw [World.cell?_setCell_other w ⟨b, k, none⟩ ⟨b, j, none⟩ _ (by intro e'; injection e' with _ e2; first | exact e e2 | exact e e2.symm)]
    simp only [if_neg e]
    exact (h j hj).1
theorem Row.set' (h : Row w b n f) {k : Nat} (hk : k < n) {v : Int} (e : ∀ j, j < n → (if j = k then v else f j) = g j) : Row (w.setCell ⟨b, k, none⟩ (.int .i64 v)) b n g :=
  (h.set hk v).congr e
end

/-- A row that the call has made. -/
theorem row_made {w : World} {base : Nat} {e : TypeId} {b n : Nat} (h : w.ownsRow base e 1 (.slice (some ⟨b, 0, none⟩) n n) n (madeCells (Value.int .i64 0).cells (n * 1)).toList) : Row w b n (fun _ => 0) := by
  intro j hj
  refine ⟨?_, World.ownsRow.frozenAt h j⟩
  rw [World.ownsRow.cellAt h j (by omega), show (Value.int .i64 0).cells = #[Value.int .i64 0] from rfl, Nat.mul_one, toList_madeCells_one]
  simp [hj]
theorem Sl.same {w w' : World} {A : Option Addr} {xs : List Int} (h : Sl w A xs) (hb : ∀ b o, A = some ⟨b, o, none⟩ → b < w.heap.size → w'.heap[b]? = w.heap[b]?) : Sl w' A xs := by
  intro k hk
  obtain ⟨b, o, e, hc⟩ := h k hk
  refine ⟨b, o, e, ?_⟩
  rw [World.cell?_of_block (a := ⟨b, o + k, none⟩) (hb b o e (block_lt hc))]
  exact hc
theorem Sl.below {w w' : World} {A : Option Addr} {xs : List Int} (h : Sl w A xs) (hb : Below w.heap.size w w') : Sl w' A xs :=
  h.same fun b _ _ hlt => hb.block b hlt
theorem Row.sl {w : World} {b n : Nat} {f : Nat → Int} {xs : List Int} (h : Row w b n f) (hl : xs.length = n) (he : ∀ j, j < n → f j = gd xs j) : Sl w (some ⟨b, 0, none⟩) xs := by
  intro k hk
  refine ⟨b, 0, rfl, ?_⟩
  rw [Nat.zero_add, ← he k (by omega)]
  exact (h k (by omega)).1

theorem Row.grown {w w' : World} {b n : Nat} {f : Nat → Int} (h : Row w b n f) (g : w.grownBy w' none) (hb : b < w.heap.size) : Row w' b n f := h.same (g.block b hb (by simp))
theorem below_made {B : Nat} {a w w' : World} (h : Below B a w) (g : w.grownBy w' none) (hB : B ≤ w.heap.size) : Below B a w' := h.grown g hB (by simp)
theorem own_lt {w : World} {base : Nat} {e : TypeId} {b n : Nat} {xs : List Value} (h : w.ownsRow base e 1 (.slice (some ⟨b, 0, none⟩) n n) n xs) (hn : 0 < n) : b < w.heap.size := by
  have h1 := World.ownsRow.cellAt h 0 (by omega)
  have hl : 0 < xs.length := by have := h.1; omega
  rw [List.getElem?_eq_getElem hl] at h1
  exact block_lt h1
theorem Row.on {w w' : World} {b n : Nat} {f : Nat → Int} (h : Row w b n f) (hn : 0 < n) (hb : Below w.heap.size w w') : Row w' b n f := h.below hb (h.lt hn)
theorem on_below {w w1 w2 : World} (b : Below w.heap.size w w1) (hb : Below w1.heap.size w1 w2) : Below w.heap.size w w2 := b.trans (hb.mono b.size)
theorem drewN_size (w : World) (k : Nat) : (w.drewN k).heap.size = w.heap.size := rfl
theorem bel_at {w w' : World} {k : Nat} (h : Below (w.drewN k).heap.size (w.drewN k) w') : Below w.heap.size w w' := by
  rw [drewN_size] at h
  exact (below_drewN' (Below.refl _ _) k).trans h
end Go.Proofs.Ytjjimbaogpmbmaa
