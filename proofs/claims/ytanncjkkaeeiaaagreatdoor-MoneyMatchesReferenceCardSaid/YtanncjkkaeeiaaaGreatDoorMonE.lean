/-
  Rows of ints in memory: what a block of ints holds, over stores, new blocks and calls; blocks that a call has made.
-/
import Derived.Test.YtanncjkkaeeiaaaGreatDoorMonD
import Derived.OwnWalk
import Derived.Laws.OwnMore
import Derived.Shelf.SlSortCmp.Whole1
namespace Go.Proofs.YtanncjkkaeeiaaaGreatDoor
open Go.RowKit Go.Sort
open Go.RowKit (Below)

/-- Block b holds f 0, f 1, .. up to n, and may be written. -/
def Row (w : World) (b n : Nat) (f : Nat → Int) : Prop := ∀ j, j < n → w.cell? ⟨b, j, none⟩ = some (.int .i64 (f j)) ∧ w.frozen? ⟨b, j, none⟩ = false

section
variable {w w' : World} {b n : Nat} {f g : Nat → Int}
theorem Row.same (h : Row w b n f) (hb : w'.heap[b]? = w.heap[b]?) : Row w' b n f := fun j hj =>
  ⟨by rw [World.cell?_of_block (a := ⟨b, j, none⟩) hb]; exact (h j hj).1, by rw [World.frozen?_of_block (a := ⟨b, j, none⟩) hb]; exact (h j hj).2⟩
theorem Row.lt (h : Row w b n f) (hn : 0 < n) : b < w.heap.size := block_lt (h 0 hn).1
theorem Row.below (h : Row w b n f) {B : Nat} (hb : Below B w w') (hB : b < B) : Row w' b n f := h.same (hb.block b hB)
theorem Row.drewN (h : Row w b n f) (k : Nat) : Row (w.drewN k) b n f := h
theorem Row.drew (h : Row w b n f) : Row w.drew b n f := h
theorem Row.alloc (h : Row w b n f) (hb : b < w.heap.size) (o : Obj) : Row (w.alloc o) b n f := h.same (Below.heap_alloc w o b hb)
theorem Row.far (h : Row w b n f) {p : Addr} (hp : b ≠ p.block) (v : Value) : Row (w.setCell p v) b n f := h.same (Below.heap_setCell w p v b hp)
theorem Row.congr (h : Row w b n f) (e : ∀ j, j < n → f j = g j) : Row w b n g := fun j hj => by rw [← e j hj]; exact h j hj
theorem Row.set (h : Row w b n f) {k : Nat} (hk : k < n) (v : Int) : Row (w.setCell ⟨b, k, none⟩ (.int .i64 v)) b n (fun j => if j = k then v else f j) := by
  intro j hj
  refine ⟨?_, by rw [World.frozen?_setCell]; exact (h j hj).2⟩
  by_cases e : j = k
  · subst e
    have h1 := (h j hj).1
    simp only [if_true]
    simp [go_sem, h1]
  · rw [World.cell?_setCell_other w ⟨b, k, none⟩ ⟨b, j, none⟩ _ (by intro e'; injection e' with _ e2; first | exact e e2 | exact e e2.symm)]
    simp only [if_neg e]
    exact (h j hj).1
theorem Row.set' (h : Row w b n f) {k : Nat} (hk : k < n) {v : Int} (e : ∀ j, j < n → (if j = k then v else f j) = g j) : Row (w.setCell ⟨b, k, none⟩ (.int .i64 v)) b n g :=
  (h.set hk v).congr e
end

/-- A row that the call has made. -/
theorem row_made {w : World} {base : Nat} {e : TypeId} {b n : Nat} (h : w.ownsRow base e 1 (.slice (some ⟨b, 0, none⟩) n n) n (madeCells (Value.int .i64 0).cells (n * 1)).toList) : Row w b n (fun _ => 0) := by
  intro j hj
  refine ⟨?_, World.ownsRow.frozenAt h j⟩
  rw [World.ownsRow.cellAt h j (by omega), show (Value.int .i64 0).cells = #[Value.int .i64 0] from rfl, Nat.mul_one, toList_madeCells_one]
  simp [hj]
theorem Sl.same {w w' : World} {A : Option Addr} {xs : List Int} (h : Sl w A xs) (hb : ∀ b o, A = some ⟨b, o, none⟩ → b < w.heap.size → w'.heap[b]? = w.heap[b]?) : Sl w' A xs := by
  intro k hk
  obtain ⟨b, o, e, hc⟩ := h k hk
  refine ⟨b, o, e, ?_⟩
  rw [World.cell?_of_block (a := ⟨b, o + k, none⟩) (hb b o e (block_lt hc))]
  exact hc
theorem Sl.below {w w' : World} {A : Option Addr} {xs : List Int} (h : Sl w A xs) (hb : Below w.heap.size w w') : Sl w' A xs :=
  h.same fun b _ _ hlt => hb.block b hlt
theorem Row.sl {w : World} {b n : Nat} {f : Nat → Int} {xs : List Int} (h : Row w b n f) (hl : xs.length = n) (he : ∀ j, j < n → f j = gd xs j) : Sl w (some ⟨b, 0, none⟩) xs := by
  intro k hk
  refine ⟨b, 0, rfl, ?_⟩
  rw [Nat.zero_add, ← he k (by omega)]
  exact (h k (by omega)).1

/-! ### The sort -/
theorem cfI_lt (rs : List Int) (i j : Nat) : decide (cfI (gd rs i) (gd rs j) i j < 0) = bef rs i j := by
  rw [Bool.eq_iff_iff, bef_iff, decide_eq_true_eq]
  show _ ↔ gd rs j < gd rs i ∨ gd rs j = gd rs i ∧ i < j
  unfold cfI orI
  rcases cmpI_cases (gd rs j) (gd rs i) with ⟨h, e⟩ | ⟨h, e⟩ | ⟨h, e⟩ <;> rcases cmpI_cases (i : Int) (j : Int) with ⟨h', e'⟩ | ⟨h', e'⟩ | ⟨h', e'⟩ <;> rw [e, e'] <;> simp <;> omega

/-- How the indices below n are compared. -/
def cfF (rs : List Int) (n : Nat) (x y : Fin n) : Int := cfI (gd rs x.val) (gd rs y.val) (x.val : Int) (y.val : Int)
theorem ltF (rs : List Int) (n : Nat) (x y : Fin n) : ltOf (cfF rs n) x y = bef rs x.val y.val := by
  unfold ltOf cfF
  exact cfI_lt rs x.val y.val
theorem swoF (rs : List Int) (n : Nat) : SWO (ltOf (cfF rs n)) where
  irrefl x := by rw [ltF, bef_self]
  trans x y z h1 h2 := by rw [ltF] at *; exact bef_trans h1 h2
  ntrans x y z h1 h2 := by
    rw [ltF] at *
    rw [← Bool.not_eq_true, bef_iff] at *
    omega
def encF (n : Nat) (x : Fin n) : Value := .int .i64 (x.val : Int)

/-- The blocks but ob are as they were. -/
structure SortedTo (rs : List Int) (n ob : Nat) (w w' : World) (l : List Nat) : Prop where
  perm : l.Perm (List.range n)
  pw : l.Pairwise (fun a b => bef rs a b = true)
  row : Row w' ob n (fun k => (l.getD k 0 : Nat))
  other : ∀ b, b < w.heap.size → b ≠ ob → w'.heap[b]? = w.heap[b]?
  below : Below ob w w'

theorem heap_putRow_other {α : Type} [Inhabited α] (enc : α → Value) (w : World) (blk off : Nat) (d : Array α) (b : Nat) (h : b ≠ blk) : (putRow enc w blk off d).heap[b]? = w.heap[b]? := by
  simp only [putRow, mapBlock, Array.getElem?_modify]
  rw [if_neg (by omega)]

theorem sorted_of {rs : List Int} {n ob m : Nat} {w : World} [Inhabited (Fin n)] {d d' : Array (Fin n)} {os : Array Obj} (hd : d.toList.map Fin.val = List.range n) (hob : ob < w.heap.size) (hH : Holds (encF n) w ob 0 d)
    (hp : PermIn 0 d.size d d') (hs : SortedIn (ltOf (cfF rs n)) 0 d.size d') : SortedTo rs n ob w (sortWorld (encF n) w ob 0 m d' os) (d'.toList.map Fin.val) := by
  obtain ⟨hsz, -, hperm⟩ := hp
  have hdn : d.size = n := by have := congrArg List.length hd; simpa using this
  have hp2 : d'.toList.Perm d.toList := by
    have e1 : (d'.extract 0 d.size).toList = d'.toList := by rw [← hsz]; simp
    have e2 : (d.extract 0 d.size).toList = d.toList := by simp
    rwa [e1, e2] at hperm
  have hp3 : (d'.toList.map Fin.val).Perm (List.range n) := by rw [← hd]; exact hp2.map _
  refine ⟨hp3, ?_, ?_, ?_, ?_⟩
  · rw [List.pairwise_iff_getElem]
    intro i j hi hj hij
    have hi' : i < d'.size := by simpa using hi
    have hj' : j < d'.size := by simpa using hj
    have h1 := hs i j (Nat.zero_le _) hij (by omega)
    rw [ltF, getElem!_pos d' i hi', getElem!_pos d' j hj'] at h1
    simp only [List.getElem_map, Array.getElem_toList]
    have hnd : (d'.toList.map Fin.val).Nodup := hp3.nodup_iff.2 List.nodup_range
    have hne : (d'[i]).val ≠ (d'[j]).val := by
      have := (List.pairwise_iff_getElem.1 hnd) i j hi hj hij
      simpa using this
    rcases bef_total (rs := rs) hne with h | h
    · exact h
    · rw [h1] at h; cases h
  · have hh := holds_sortWorld (encF n) w ob 0 m d d' os hob hH hsz
    intro j hj
    have h2 := hh j (by omega)
    rw [Nat.zero_add] at h2
    refine ⟨?_, h2.2⟩
    rw [h2.1, getElem!_pos d' j (by omega)]
    show some (Value.int .i64 ((d'[j]).val : Int)) = some (Value.int .i64 (((d'.toList.map Fin.val).getD j 0 : Nat) : Int))
    rw [List.getD_eq_getElem?_getD, List.getElem?_map]
    have : d'.toList[j]? = some d'[j] := by rw [List.getElem?_eq_getElem (by simp; omega)]; simp
    rw [this]
    rfl
  · intro b hb hne
    unfold sortWorld
    rw [heap_grow_old _ _ (by simpa using hb), heap_putRow_other _ _ _ _ _ _ hne]
    rfl
  · refine ⟨rfl, rfl, rfl, ?_, fun k hk => ?_⟩
    · unfold sortWorld; simp
    · unfold sortWorld
      rw [heap_grow_old _ _ (by simp; exact Nat.lt_trans hk hob), heap_putRow_other _ _ _ _ _ _ (by omega)]
      rfl

/-- The premise on the closure. -/
theorem cmp_lays (rs : List Int) (n gb rb c ob : Nat) [Inhabited (Fin n)] (w : World) (hg : gb ≠ ob) (hr : rb ≠ ob) (h0 : w.cell? ⟨gb, 0, none⟩ = some (.slice (some ⟨rb, 0, none⟩) n c)) (hR : Row w rb n (gd rs)) :
    CmpLays1 Tryz.prog 44 #[.pointer (some ⟨gb, 0, none⟩)] (encF n) (cfF rs n) ob 0 n w := by
  intro m os dk _ x y
  have hgl := block_lt h0
  have e : ∀ a : Addr, a.block < w.heap.size → a.block ≠ ob → (sortWorld (encF n) w ob 0 m dk os).cell? a = w.cell? a := by
    intro a h1 h2
    refine World.cell?_of_block ?_
    unfold sortWorld
    rw [heap_grow_old _ _ (by simpa using h1), heap_putRow_other _ _ _ _ _ _ h2]
    rfl
  have hx := (hR x.val x.isLt).1
  have hy := (hR y.val y.isLt).1
  exact closure_any gb rb n c x.val y.val (gd rs x.val) (gd rs y.val) _ x.isLt y.isLt (by rw [e _ hgl hg]; exact h0) (by rw [e _ (block_lt hx) hr]; exact hx) (by rw [e _ (block_lt hy) hr]; exact hy)
end Go.Proofs.YtanncjkkaeeiaaaGreatDoor
