/-
  The reference of layer 8: Clip.
-/
import Derived.Test.YtehlplejcaofoaaShpI
import Derived.Test.YtehlplejcaofoaaShpPQ
import Derived.Test.YtehlplejcaofoaaShpPS
namespace Go.Proofs.Ytehlplejcaofoaa
open Go.RowKit Go.Sort
open Go.RowKit (Below)
set_option linter.unusedVariables false
set_option linter.unusedSimpArgs false

/-- The blocks that the entry makes. -/
structure Rc5 (g : Nat) (A : Option Addr) (C : Nat) (xs : List (Int × Int)) (lo hi a b c d e f : Int) (W : World) : Prop where
  p : W.heap[g]? = some (.cells #[.slice A xs.length C, .int .i64 lo, .int .i64 hi] 24 (0, 0))
  q : W.heap[g + 1]? = some (.cells #[.int .i64 a, .int .i64 b, .int .i64 c] 26 (0, 0))
  s : W.heap[g + 1 + 1]? = some (.cells #[.int .i64 d, .int .i64 e, .int .i64 f] 26 (0, 0))
  x : Lr W (g + 1 + 1 + 1) 0 0
  y : Lr W (g + 1 + 1 + 1 + 1) 0 0
/-- A range in its block. -/
def Gr (W : World) (g : Nat) (r : Rg) : Prop := W.heap[g]? = some (.cells #[.int .i64 r.ln, .int .i64 r.ld, .int .i64 r.hn, .int .i64 r.hd, .bool r.e] 91 (0, 0))
structure Cq (g gz gr : Nat) (A : Option Addr) (C : Nat) (xs : List (Int × Int)) (lo hi a b c d e f : Int) (r : Rg) (w0 W : World) : Prop where
  k : Rc5 g A C xs lo hi a b c d e f W
  z : Lr W gz 0 1
  r : Gr W gr r
  o1 : gz = g + 5
  o2 : gz < gr
  o3 : g = w0.heap.size
  bel : Below w0.heap.size w0 W
section
variable {g gz gr : Nat} {A : Option Addr} {C : Nat} {xs : List (Int × Int)} {lo hi a b c d e f : Int} {r : Rg} {w0 W W' : World}
theorem Rc5.on (h : Rc5 g A C xs lo hi a b c d e f W) (hb : Below W.heap.size W W') : Rc5 g A C xs lo hi a b c d e f W' := ⟨blk_on h.p hb, blk_on h.q hb, blk_on h.s hb, h.x.on hb, h.y.on hb⟩
theorem Gr.on (h : Gr W g r) (hb : Below W.heap.size W W') : Gr W' g r := blk_on h hb
theorem Gr.lt (h : Gr W g r) : g < W.heap.size := (Array.getElem?_eq_some_iff.1 h).1
theorem Gr.cells (h : Gr W g r) : W.cell? ⟨g, 0, none⟩ = some (.int .i64 r.ln) ∧ W.cell? ⟨g, 1, none⟩ = some (.int .i64 r.ld) ∧ W.cell? ⟨g, 2, none⟩ = some (.int .i64 r.hn) ∧ W.cell? ⟨g, 3, none⟩ = some (.int .i64 r.hd) ∧ W.cell? ⟨g, 4, none⟩ = some (.bool r.e) := by
  unfold Gr at h; refine ⟨?_, ?_, ?_, ?_, ?_⟩ <;> simp [World.cell?, h]
theorem Gr.fz (h : Gr W g r) (i : Nat) : W.frozen? ⟨g, i, none⟩ = false := by unfold Gr at h; simp [World.frozen?, h]
theorem Lr.fz (h : Lr W g a b) (i : Nat) : W.frozen? ⟨g, i, none⟩ = false := by unfold Lr at h; simp [World.frozen?, h]
theorem Cq.on (h : Cq g gz gr A C xs lo hi a b c d e f r w0 W) (hb : Below W.heap.size W W') : Cq g gz gr A C xs lo hi a b c d e f r w0 W' := ⟨h.k.on hb, h.z.on hb, h.r.on hb, h.o1, h.o2, h.o3, on_below h.bel hb⟩
theorem Lrp.fz {x y : Value} {t : TypeId} (h : W.heap[g]? = some (.cells #[x, y] t (0, 0))) (i : Nat) : W.frozen? ⟨g, i, none⟩ = false := by simp [World.frozen?, h]
theorem set_far {g' i j : Nat} {u v : Value} (h : W.cell? ⟨g, i, none⟩ = some v) (hne : ¬ g = g') : (W.setCell ⟨g', j, none⟩ u).cell? ⟨g, i, none⟩ = some v := by
  have e := Below.heap_setCell W ⟨g', j, none⟩ u g hne
  unfold World.cell? at h ⊢
  simp only [] at h ⊢
  rw [e]; exact h
/-- The world with another range. -/
def putR (W : World) (g : Nat) (r : Rg) : World := ((((W.setCell ⟨g, 0, none⟩ (.int .i64 r.ln)).setCell ⟨g, 1, none⟩ (.int .i64 r.ld)).setCell ⟨g, 2, none⟩ (.int .i64 r.hn)).setCell ⟨g, 3, none⟩ (.int .i64 r.hd)).setCell ⟨g, 4, none⟩ (.bool r.e)
theorem put_far {j : Nat} {o : Obj} (h : W.heap[j]? = some o) (hne : j ≠ g) : (putR W g r).heap[j]? = some o := blk_far (blk_far (blk_far (blk_far (blk_far h hne) hne) hne) hne) hne
theorem put_cell {j i : Nat} {v : Value} (h : W.cell? ⟨j, i, none⟩ = some v) (hne : j ≠ g) : (putR W g r).cell? ⟨j, i, none⟩ = some v := by
  have e : (putR W g r).heap[j]? = W.heap[j]? := by
    unfold putR
    rw [Below.heap_setCell _ ⟨g, 4, none⟩ _ j hne, Below.heap_setCell _ ⟨g, 3, none⟩ _ j hne, Below.heap_setCell _ ⟨g, 2, none⟩ _ j hne, Below.heap_setCell _ ⟨g, 1, none⟩ _ j hne, Below.heap_setCell _ ⟨g, 0, none⟩ _ j hne]
  unfold World.cell? at h ⊢
  simp only [] at h ⊢
  rw [e]; exact h
theorem Cq.put (h : Cq g gz gr A C xs lo hi a b c d e f r w0 W) (s : Rg) : Cq g gz gr A C xs lo hi a b c d e f s w0 (putR W gr s) := by
  have h1 := h.o1
  have h2 := h.o2
  have h3 := h.o3
  refine ⟨⟨put_far h.k.p (by omega), put_far h.k.q (by omega), put_far h.k.s (by omega), put_far h.k.x (by omega), put_far h.k.y (by omega)⟩, put_far h.z (by omega), ?_, h1, h2, h3, ?_⟩
  · exact set_cells (set_cells (set_cells (set_cells (set_cells h.r 0 (.int .i64 s.ln)) 1 (.int .i64 s.ld)) 2 (.int .i64 s.hn)) 3 (.int .i64 s.hd)) 4 (.bool s.e)
  · have hg : w0.heap.size ≤ gr := by omega
    exact Below.setCell (Below.setCell (Below.setCell (Below.setCell (Below.setCell h.bel hg _) hg _) hg _) hg _) hg _
theorem rr_ok (o : Bok xs lo hi) (v : V3 a b c) (t : V3 d e f) (k : Nat) : Rok 100000000 (clp r0 ((cnd xs lo hi a b c d e f).take k)) :=
  clp_ok (r0_ok (by decide)) (fun x hx => by have h := cnd_bd o v t x (List.mem_of_mem_take hx); exact ⟨⟨by omega, by omega⟩, by omega, by omega⟩)
theorem rr_step (o : Bok xs lo hi) (v : V3 a b c) (t : V3 d e f) {k : Nat} (hk : k < xs.length) :
    clp r0 ((cnd xs lo hi a b c d e f).take (k + 1)) = nrw (clp r0 ((cnd xs lo hi a b c d e f).take k)) (crs (px xs k) (py xs k) (px xs (nx xs.length k)) (py xs (nx xs.length k)) a b) (slo (px xs k) (py xs k) (px xs (nx xs.length k)) (py xs (nx xs.length k)) (d - a) (e - b))
    ∧ (-100000000 ≤ crs (px xs k) (py xs k) (px xs (nx xs.length k)) (py xs (nx xs.length k)) a b ∧ crs (px xs k) (py xs k) (px xs (nx xs.length k)) (py xs (nx xs.length k)) a b ≤ 100000000)
    ∧ (-100000000 ≤ slo (px xs k) (py xs k) (px xs (nx xs.length k)) (py xs (nx xs.length k)) (d - a) (e - b) ∧ slo (px xs k) (py xs k) (px xs (nx xs.length k)) (py xs (nx xs.length k)) (d - a) (e - b) ≤ 100000000) := by
  have h1 := dep_bd o v k
  have h2 := dep_bd o t k
  have h3 := clp_take r0 _ (cnd_at (xs := xs) (lo := lo) (hi := hi) (fx := a) (fy := b) (fz := c) (tx := d) (ty := e) (tz := f) (by omega : k < xs.length + 2))
  have h4 := slo_end (px xs k) (py xs k) (px xs (nx xs.length k)) (py xs (nx xs.length k)) a b d e
  unfold dep at h1 h2 h3
  rw [if_pos hk] at h1 h2
  simp only [if_pos hk] at h3
  rw [h3, ← h4]
  refine ⟨by rw [show crs (px xs k) (py xs k) (px xs (nx xs.length k)) (py xs (nx xs.length k)) a b + slo (px xs k) (py xs k) (px xs (nx xs.length k)) (py xs (nx xs.length k)) (d - a) (e - b) - crs (px xs k) (py xs k) (px xs (nx xs.length k)) (py xs (nx xs.length k)) a b = slo (px xs k) (py xs k) (px xs (nx xs.length k)) (py xs (nx xs.length k)) (d - a) (e - b) by omega], ⟨by omega, by omega⟩, by omega, by omega⟩
theorem rr_end (o : Bok xs lo hi) (v : V3 a b c) (t : V3 d e f) : clp r0 (cnd xs lo hi a b c d e f) = nrw (nrw (clp r0 ((cnd xs lo hi a b c d e f).take xs.length)) (c - lo) (f - c)) (hi - c) (c - f) := by
  have h1 := clp_take r0 _ (cnd_at (xs := xs) (lo := lo) (hi := hi) (fx := a) (fy := b) (fz := c) (tx := d) (ty := e) (tz := f) (by omega : xs.length < xs.length + 2))
  have h2 := clp_take r0 _ (cnd_at (xs := xs) (lo := lo) (hi := hi) (fx := a) (fy := b) (fz := c) (tx := d) (ty := e) (tz := f) (by omega : xs.length + 1 < xs.length + 2))
  rw [List.take_of_length_le (by rw [cnd_len]; omega), h1] at h2
  rw [h2]
  unfold dep
  simp only [if_neg (Nat.lt_irrefl xs.length), if_neg (show ¬ xs.length + 1 < xs.length by omega), if_neg (show ¬ xs.length + 1 = xs.length by omega), if_pos rfl, ite_true]
  rw [show f - lo - (c - lo) = f - c by omega, show hi - f - (hi - c) = c - f by omega]
end
set_option maxRecDepth 100000 in
set_option maxHeartbeats 2000000 in
theorem qclip_1 (A : Option Addr) (C : Nat) (xs : List (Int × Int)) (lo hi a b c d e f : Int) (hlx : xs.length ≤ 9223372036854775807) (v1 : Bool) (v2 : Bool) (hra : false = true ↔ Bok xs lo hi) (hrb : vv a b c = v1) (hrc : vv d e f = v2) (w : World) (hl : SlS w A xs) :
    Calls Try.prog 24 #[.agg #[.slice A xs.length C, .int .i64 lo, .int .i64 hi], .agg #[.int .i64 a, .int .i64 b, .int .i64 c], .agg #[.int .i64 d, .int .i64 e, .int .i64 f]] w fun e_ w' => e_ = .returned (.tuple #[.agg #[.int .i64 0, .int .i64 0], .agg #[.int .i64 0, .int .i64 0], .bool false, .int .i64 1]) ∧ Below w.heap.size w w' := by
  have CA := Lib.hid (fun W (h : SlS W A xs) => qvalid_is A C xs lo hi hlx false hra W h)
  have CB := Lib.hid (fun W => qpoint_is a b c v1 hrb W)
  have CC := Lib.hid (fun W => qpoint_is d e f v2 hrc W)
  clear hra hrb hrc
  have HL := Lib.hid hl
  clear hl
  have p0 : World.cell? (((((w.alloc (.cells #[.slice A xs.length C, .int .i64 lo, .int .i64 hi] 24)).alloc (.cells #[.int .i64 a, .int .i64 b, .int .i64 c] 26)).alloc (.cells #[.int .i64 d, .int .i64 e, .int .i64 f] 26)).alloc (.cells #[.int .i64 0, .int .i64 0] 37)).alloc (.cells #[.int .i64 0, .int .i64 0] 37)) ⟨w.heap.size, 0, none⟩ = some (.slice A xs.length C) := by simp [go_sem]
  have p1 : World.cell? (((((w.alloc (.cells #[.slice A xs.length C, .int .i64 lo, .int .i64 hi] 24)).alloc (.cells #[.int .i64 a, .int .i64 b, .int .i64 c] 26)).alloc (.cells #[.int .i64 d, .int .i64 e, .int .i64 f] 26)).alloc (.cells #[.int .i64 0, .int .i64 0] 37)).alloc (.cells #[.int .i64 0, .int .i64 0] 37)) ⟨w.heap.size, 1, none⟩ = some (.int .i64 lo) := by simp [go_sem]
  have p2 : World.cell? (((((w.alloc (.cells #[.slice A xs.length C, .int .i64 lo, .int .i64 hi] 24)).alloc (.cells #[.int .i64 a, .int .i64 b, .int .i64 c] 26)).alloc (.cells #[.int .i64 d, .int .i64 e, .int .i64 f] 26)).alloc (.cells #[.int .i64 0, .int .i64 0] 37)).alloc (.cells #[.int .i64 0, .int .i64 0] 37)) ⟨w.heap.size, 2, none⟩ = some (.int .i64 hi) := by simp [go_sem]
  have lp : w.heap.size < (((((w.alloc (.cells #[.slice A xs.length C, .int .i64 lo, .int .i64 hi] 24)).alloc (.cells #[.int .i64 a, .int .i64 b, .int .i64 c] 26)).alloc (.cells #[.int .i64 d, .int .i64 e, .int .i64 f] 26)).alloc (.cells #[.int .i64 0, .int .i64 0] 37)).alloc (.cells #[.int .i64 0, .int .i64 0] 37)).heap.size := by simp <;> omega
  have q0 : World.cell? (((((w.alloc (.cells #[.slice A xs.length C, .int .i64 lo, .int .i64 hi] 24)).alloc (.cells #[.int .i64 a, .int .i64 b, .int .i64 c] 26)).alloc (.cells #[.int .i64 d, .int .i64 e, .int .i64 f] 26)).alloc (.cells #[.int .i64 0, .int .i64 0] 37)).alloc (.cells #[.int .i64 0, .int .i64 0] 37)) ⟨w.heap.size + 1, 0, none⟩ = some (.int .i64 a) := by simp [go_sem]
  have q1 : World.cell? (((((w.alloc (.cells #[.slice A xs.length C, .int .i64 lo, .int .i64 hi] 24)).alloc (.cells #[.int .i64 a, .int .i64 b, .int .i64 c] 26)).alloc (.cells #[.int .i64 d, .int .i64 e, .int .i64 f] 26)).alloc (.cells #[.int .i64 0, .int .i64 0] 37)).alloc (.cells #[.int .i64 0, .int .i64 0] 37)) ⟨w.heap.size + 1, 1, none⟩ = some (.int .i64 b) := by simp [go_sem]
  have q2 : World.cell? (((((w.alloc (.cells #[.slice A xs.length C, .int .i64 lo, .int .i64 hi] 24)).alloc (.cells #[.int .i64 a, .int .i64 b, .int .i64 c] 26)).alloc (.cells #[.int .i64 d, .int .i64 e, .int .i64 f] 26)).alloc (.cells #[.int .i64 0, .int .i64 0] 37)).alloc (.cells #[.int .i64 0, .int .i64 0] 37)) ⟨w.heap.size + 1, 2, none⟩ = some (.int .i64 c) := by simp [go_sem]
  have lq : w.heap.size + 1 < (((((w.alloc (.cells #[.slice A xs.length C, .int .i64 lo, .int .i64 hi] 24)).alloc (.cells #[.int .i64 a, .int .i64 b, .int .i64 c] 26)).alloc (.cells #[.int .i64 d, .int .i64 e, .int .i64 f] 26)).alloc (.cells #[.int .i64 0, .int .i64 0] 37)).alloc (.cells #[.int .i64 0, .int .i64 0] 37)).heap.size := by simp <;> omega
  have s0 : World.cell? (((((w.alloc (.cells #[.slice A xs.length C, .int .i64 lo, .int .i64 hi] 24)).alloc (.cells #[.int .i64 a, .int .i64 b, .int .i64 c] 26)).alloc (.cells #[.int .i64 d, .int .i64 e, .int .i64 f] 26)).alloc (.cells #[.int .i64 0, .int .i64 0] 37)).alloc (.cells #[.int .i64 0, .int .i64 0] 37)) ⟨w.heap.size + 1 + 1, 0, none⟩ = some (.int .i64 d) := by simp [go_sem]
  have s1 : World.cell? (((((w.alloc (.cells #[.slice A xs.length C, .int .i64 lo, .int .i64 hi] 24)).alloc (.cells #[.int .i64 a, .int .i64 b, .int .i64 c] 26)).alloc (.cells #[.int .i64 d, .int .i64 e, .int .i64 f] 26)).alloc (.cells #[.int .i64 0, .int .i64 0] 37)).alloc (.cells #[.int .i64 0, .int .i64 0] 37)) ⟨w.heap.size + 1 + 1, 1, none⟩ = some (.int .i64 e) := by simp [go_sem]
  have s2 : World.cell? (((((w.alloc (.cells #[.slice A xs.length C, .int .i64 lo, .int .i64 hi] 24)).alloc (.cells #[.int .i64 a, .int .i64 b, .int .i64 c] 26)).alloc (.cells #[.int .i64 d, .int .i64 e, .int .i64 f] 26)).alloc (.cells #[.int .i64 0, .int .i64 0] 37)).alloc (.cells #[.int .i64 0, .int .i64 0] 37)) ⟨w.heap.size + 1 + 1, 2, none⟩ = some (.int .i64 f) := by simp [go_sem]
  have ls : w.heap.size + 1 + 1 < (((((w.alloc (.cells #[.slice A xs.length C, .int .i64 lo, .int .i64 hi] 24)).alloc (.cells #[.int .i64 a, .int .i64 b, .int .i64 c] 26)).alloc (.cells #[.int .i64 d, .int .i64 e, .int .i64 f] 26)).alloc (.cells #[.int .i64 0, .int .i64 0] 37)).alloc (.cells #[.int .i64 0, .int .i64 0] 37)).heap.size := by simp <;> omega
  have x0 : World.cell? (((((w.alloc (.cells #[.slice A xs.length C, .int .i64 lo, .int .i64 hi] 24)).alloc (.cells #[.int .i64 a, .int .i64 b, .int .i64 c] 26)).alloc (.cells #[.int .i64 d, .int .i64 e, .int .i64 f] 26)).alloc (.cells #[.int .i64 0, .int .i64 0] 37)).alloc (.cells #[.int .i64 0, .int .i64 0] 37)) ⟨w.heap.size + 1 + 1 + 1, 0, none⟩ = some (.int .i64 0) := by simp [go_sem]
  have fx0 : World.frozen? (((((w.alloc (.cells #[.slice A xs.length C, .int .i64 lo, .int .i64 hi] 24)).alloc (.cells #[.int .i64 a, .int .i64 b, .int .i64 c] 26)).alloc (.cells #[.int .i64 d, .int .i64 e, .int .i64 f] 26)).alloc (.cells #[.int .i64 0, .int .i64 0] 37)).alloc (.cells #[.int .i64 0, .int .i64 0] 37)) ⟨w.heap.size + 1 + 1 + 1, 0, none⟩ = false := by simp [go_sem]
  have x1 : World.cell? (((((w.alloc (.cells #[.slice A xs.length C, .int .i64 lo, .int .i64 hi] 24)).alloc (.cells #[.int .i64 a, .int .i64 b, .int .i64 c] 26)).alloc (.cells #[.int .i64 d, .int .i64 e, .int .i64 f] 26)).alloc (.cells #[.int .i64 0, .int .i64 0] 37)).alloc (.cells #[.int .i64 0, .int .i64 0] 37)) ⟨w.heap.size + 1 + 1 + 1, 1, none⟩ = some (.int .i64 0) := by simp [go_sem]
  have fx1 : World.frozen? (((((w.alloc (.cells #[.slice A xs.length C, .int .i64 lo, .int .i64 hi] 24)).alloc (.cells #[.int .i64 a, .int .i64 b, .int .i64 c] 26)).alloc (.cells #[.int .i64 d, .int .i64 e, .int .i64 f] 26)).alloc (.cells #[.int .i64 0, .int .i64 0] 37)).alloc (.cells #[.int .i64 0, .int .i64 0] 37)) ⟨w.heap.size + 1 + 1 + 1, 1, none⟩ = false := by simp [go_sem]
  have lx : w.heap.size + 1 + 1 + 1 < (((((w.alloc (.cells #[.slice A xs.length C, .int .i64 lo, .int .i64 hi] 24)).alloc (.cells #[.int .i64 a, .int .i64 b, .int .i64 c] 26)).alloc (.cells #[.int .i64 d, .int .i64 e, .int .i64 f] 26)).alloc (.cells #[.int .i64 0, .int .i64 0] 37)).alloc (.cells #[.int .i64 0, .int .i64 0] 37)).heap.size := by simp <;> omega
  have y0 : World.cell? (((((w.alloc (.cells #[.slice A xs.length C, .int .i64 lo, .int .i64 hi] 24)).alloc (.cells #[.int .i64 a, .int .i64 b, .int .i64 c] 26)).alloc (.cells #[.int .i64 d, .int .i64 e, .int .i64 f] 26)).alloc (.cells #[.int .i64 0, .int .i64 0] 37)).alloc (.cells #[.int .i64 0, .int .i64 0] 37)) ⟨w.heap.size + 1 + 1 + 1 + 1, 0, none⟩ = some (.int .i64 0) := by simp [go_sem]
  have fy0 : World.frozen? (((((w.alloc (.cells #[.slice A xs.length C, .int .i64 lo, .int .i64 hi] 24)).alloc (.cells #[.int .i64 a, .int .i64 b, .int .i64 c] 26)).alloc (.cells #[.int .i64 d, .int .i64 e, .int .i64 f] 26)).alloc (.cells #[.int .i64 0, .int .i64 0] 37)).alloc (.cells #[.int .i64 0, .int .i64 0] 37)) ⟨w.heap.size + 1 + 1 + 1 + 1, 0, none⟩ = false := by simp [go_sem]
  have y1 : World.cell? (((((w.alloc (.cells #[.slice A xs.length C, .int .i64 lo, .int .i64 hi] 24)).alloc (.cells #[.int .i64 a, .int .i64 b, .int .i64 c] 26)).alloc (.cells #[.int .i64 d, .int .i64 e, .int .i64 f] 26)).alloc (.cells #[.int .i64 0, .int .i64 0] 37)).alloc (.cells #[.int .i64 0, .int .i64 0] 37)) ⟨w.heap.size + 1 + 1 + 1 + 1, 1, none⟩ = some (.int .i64 0) := by simp [go_sem]
  have fy1 : World.frozen? (((((w.alloc (.cells #[.slice A xs.length C, .int .i64 lo, .int .i64 hi] 24)).alloc (.cells #[.int .i64 a, .int .i64 b, .int .i64 c] 26)).alloc (.cells #[.int .i64 d, .int .i64 e, .int .i64 f] 26)).alloc (.cells #[.int .i64 0, .int .i64 0] 37)).alloc (.cells #[.int .i64 0, .int .i64 0] 37)) ⟨w.heap.size + 1 + 1 + 1 + 1, 1, none⟩ = false := by simp [go_sem]
  have ly : w.heap.size + 1 + 1 + 1 + 1 < (((((w.alloc (.cells #[.slice A xs.length C, .int .i64 lo, .int .i64 hi] 24)).alloc (.cells #[.int .i64 a, .int .i64 b, .int .i64 c] 26)).alloc (.cells #[.int .i64 d, .int .i64 e, .int .i64 f] 26)).alloc (.cells #[.int .i64 0, .int .i64 0] 37)).alloc (.cells #[.int .i64 0, .int .i64 0] 37)).heap.size := by simp <;> omega
  have HB := Lib.hid (show Below w.heap.size w (((((w.alloc (.cells #[.slice A xs.length C, .int .i64 lo, .int .i64 hi] 24)).alloc (.cells #[.int .i64 a, .int .i64 b, .int .i64 c] 26)).alloc (.cells #[.int .i64 d, .int .i64 e, .int .i64 f] 26)).alloc (.cells #[.int .i64 0, .int .i64 0] 37)).alloc (.cells #[.int .i64 0, .int .i64 0] 37)) from ((((((Below.refl _ _).alloc (by simp <;> omega) _).alloc (by simp <;> omega) _).alloc (by simp <;> omega) _).alloc (by simp <;> omega) _).alloc (by simp <;> omega) _))
  go_enter Try.func24, Try.ntmps24
  go_upto_region 1 with fail
  generalize ((((w.alloc (.cells #[.slice A xs.length C, .int .i64 lo, .int .i64 hi] 24)).alloc (.cells #[.int .i64 a, .int .i64 b, .int .i64 c] 26)).alloc (.cells #[.int .i64 d, .int .i64 e, .int .i64 f] 26)).alloc (.cells #[.int .i64 0, .int .i64 0] 37)).alloc (.cells #[.int .i64 0, .int .i64 0] 37) = w1 at *
  replace HL := Lib.hid (HL.out.below HB.out)
  go_wp2_with fail
  have z0 : World.cell? (w1.alloc (.cells #[.int .i64 0, .int .i64 1] 37)) ⟨w1.heap.size, 0, none⟩ = some (.int .i64 0) := by simp [go_sem]
  have z1 : World.cell? (w1.alloc (.cells #[.int .i64 0, .int .i64 1] 37)) ⟨w1.heap.size, 1, none⟩ = some (.int .i64 1) := by simp [go_sem]
  have lz : w1.heap.size < (w1.alloc (.cells #[.int .i64 0, .int .i64 1] 37)).heap.size := by simp
  have hb : Below w1.heap.size w1 (w1.alloc (.cells #[.int .i64 0, .int .i64 1] 37)) := below_new _ _
  generalize w1.alloc (.cells #[.int .i64 0, .int .i64 1] 37) = w2 at *
  replace HB := Lib.hid (on_below HB.out hb)
  replace HL := Lib.hid (HL.out.below hb)
  replace p0 := keepc hb p0
  replace p1 := keepc hb p1
  replace p2 := keepc hb p2
  replace q0 := keepc hb q0
  replace q1 := keepc hb q1
  replace q2 := keepc hb q2
  replace s0 := keepc hb s0
  replace s1 := keepc hb s1
  replace s2 := keepc hb s2
  replace x0 := keepc hb x0
  replace x1 := keepc hb x1
  replace y0 := keepc hb y0
  replace y1 := keepc hb y1
  replace fx0 := keepf hb lx fx0
  replace fx1 := keepf hb lx fx1
  replace fy0 := keepf hb ly fy0
  replace fy1 := keepf hb ly fy1
  replace lp := Nat.lt_of_lt_of_le lp hb.size
  replace lq := Nat.lt_of_lt_of_le lq hb.size
  replace ls := Nat.lt_of_lt_of_le ls hb.size
  replace lx := Nat.lt_of_lt_of_le lx hb.size
  replace ly := Nat.lt_of_lt_of_le ly hb.size
  clear hb
  generalize w1.heap.size = gz at *
  go_wp2_with fail
  with_reducible refine (CA.out _ HL.out).mono ?_
  rintro e_ w3 ⟨rfl, hb⟩
  replace HB := Lib.hid (on_below HB.out hb)
  replace HL := Lib.hid (HL.out.below hb)
  replace p0 := keepc hb p0
  replace p1 := keepc hb p1
  replace p2 := keepc hb p2
  replace q0 := keepc hb q0
  replace q1 := keepc hb q1
  replace q2 := keepc hb q2
  replace s0 := keepc hb s0
  replace s1 := keepc hb s1
  replace s2 := keepc hb s2
  replace x0 := keepc hb x0
  replace x1 := keepc hb x1
  replace y0 := keepc hb y0
  replace y1 := keepc hb y1
  replace z0 := keepc hb z0
  replace z1 := keepc hb z1
  replace fx0 := keepf hb lx fx0
  replace fx1 := keepf hb lx fx1
  replace fy0 := keepf hb ly fy0
  replace fy1 := keepf hb ly fy1
  replace lp := Nat.lt_of_lt_of_le lp hb.size
  replace lq := Nat.lt_of_lt_of_le lq hb.size
  replace ls := Nat.lt_of_lt_of_le ls hb.size
  replace lx := Nat.lt_of_lt_of_le lx hb.size
  replace ly := Nat.lt_of_lt_of_le ly hb.size
  replace lz := Nat.lt_of_lt_of_le lz hb.size
  clear hb
  go_wp2_with fail
  with_reducible refine (CB.out _).mono ?_
  rintro e_ w4 ⟨rfl, hb⟩
  replace HB := Lib.hid (on_below HB.out hb)
  replace HL := Lib.hid (HL.out.below hb)
  replace p0 := keepc hb p0
  replace p1 := keepc hb p1
  replace p2 := keepc hb p2
  replace q0 := keepc hb q0
  replace q1 := keepc hb q1
  replace q2 := keepc hb q2
  replace s0 := keepc hb s0
  replace s1 := keepc hb s1
  replace s2 := keepc hb s2
  replace x0 := keepc hb x0
  replace x1 := keepc hb x1
  replace y0 := keepc hb y0
  replace y1 := keepc hb y1
  replace z0 := keepc hb z0
  replace z1 := keepc hb z1
  replace fx0 := keepf hb lx fx0
  replace fx1 := keepf hb lx fx1
  replace fy0 := keepf hb ly fy0
  replace fy1 := keepf hb ly fy1
  replace lp := Nat.lt_of_lt_of_le lp hb.size
  replace lq := Nat.lt_of_lt_of_le lq hb.size
  replace ls := Nat.lt_of_lt_of_le ls hb.size
  replace lx := Nat.lt_of_lt_of_le lx hb.size
  replace ly := Nat.lt_of_lt_of_le ly hb.size
  replace lz := Nat.lt_of_lt_of_le lz hb.size
  clear hb
  go_wp2_with fail
  with_reducible refine (CC.out _).mono ?_
  rintro e_ w5 ⟨rfl, hb⟩
  replace HB := Lib.hid (on_below HB.out hb)
  replace HL := Lib.hid (HL.out.below hb)
  replace p0 := keepc hb p0
  replace p1 := keepc hb p1
  replace p2 := keepc hb p2
  replace q0 := keepc hb q0
  replace q1 := keepc hb q1
  replace q2 := keepc hb q2
  replace s0 := keepc hb s0
  replace s1 := keepc hb s1
  replace s2 := keepc hb s2
  replace x0 := keepc hb x0
  replace x1 := keepc hb x1
  replace y0 := keepc hb y0
  replace y1 := keepc hb y1
  replace z0 := keepc hb z0
  replace z1 := keepc hb z1
  replace fx0 := keepf hb lx fx0
  replace fx1 := keepf hb lx fx1
  replace fy0 := keepf hb ly fy0
  replace fy1 := keepf hb ly fy1
  replace lp := Nat.lt_of_lt_of_le lp hb.size
  replace lq := Nat.lt_of_lt_of_le lq hb.size
  replace ls := Nat.lt_of_lt_of_le ls hb.size
  replace lx := Nat.lt_of_lt_of_le lx hb.size
  replace ly := Nat.lt_of_lt_of_le ly hb.size
  replace lz := Nat.lt_of_lt_of_le lz hb.size
  clear hb
  go_wp2_with fail
  refine bodyPost_ret (v := .tuple #[.agg #[.int .i64 0, .int .i64 0], .agg #[.int .i64 0, .int .i64 0], .bool false, .int .i64 1]) (by simp [results, Try.results24, go_sem, x0, x1, y0, y1]) rfl ⟨rfl, ?_⟩
  repeat (first | (with_reducible exact HB.out) | (refine Below.setCell ?_ (by first | exact Nat.le_refl _ | (simp; done) | (simp; omega) | omega) _) | (refine Below.alloc ?_ (by first | exact Nat.le_refl _ | (simp; done) | (simp; omega) | omega) _) | (refine Below.drew ?_) | (refine below_drewN' ?_ _))
set_option maxRecDepth 100000 in
set_option maxHeartbeats 2000000 in
theorem qclip_2 (A : Option Addr) (C : Nat) (xs : List (Int × Int)) (lo hi a b c d e f : Int) (hlx : xs.length ≤ 9223372036854775807) (v2 : Bool) (hra : true = true ↔ Bok xs lo hi) (hrb : vv a b c = false) (hrc : vv d e f = v2) (w : World) (hl : SlS w A xs) :
    Calls Try.prog 24 #[.agg #[.slice A xs.length C, .int .i64 lo, .int .i64 hi], .agg #[.int .i64 a, .int .i64 b, .int .i64 c], .agg #[.int .i64 d, .int .i64 e, .int .i64 f]] w fun e_ w' => e_ = .returned (.tuple #[.agg #[.int .i64 0, .int .i64 0], .agg #[.int .i64 0, .int .i64 0], .bool false, .int .i64 1]) ∧ Below w.heap.size w w' := by
  have CA := Lib.hid (fun W (h : SlS W A xs) => qvalid_is A C xs lo hi hlx true hra W h)
  have CB := Lib.hid (fun W => qpoint_is a b c false hrb W)
  have CC := Lib.hid (fun W => qpoint_is d e f v2 hrc W)
  clear hra hrb hrc
  have HL := Lib.hid hl
  clear hl
  have p0 : World.cell? (((((w.alloc (.cells #[.slice A xs.length C, .int .i64 lo, .int .i64 hi] 24)).alloc (.cells #[.int .i64 a, .int .i64 b, .int .i64 c] 26)).alloc (.cells #[.int .i64 d, .int .i64 e, .int .i64 f] 26)).alloc (.cells #[.int .i64 0, .int .i64 0] 37)).alloc (.cells #[.int .i64 0, .int .i64 0] 37)) ⟨w.heap.size, 0, none⟩ = some (.slice A xs.length C) := by simp [go_sem]
  have p1 : World.cell? (((((w.alloc (.cells #[.slice A xs.length C, .int .i64 lo, .int .i64 hi] 24)).alloc (.cells #[.int .i64 a, .int .i64 b, .int .i64 c] 26)).alloc (.cells #[.int .i64 d, .int .i64 e, .int .i64 f] 26)).alloc (.cells #[.int .i64 0, .int .i64 0] 37)).alloc (.cells #[.int .i64 0, .int .i64 0] 37)) ⟨w.heap.size, 1, none⟩ = some (.int .i64 lo) := by simp [go_sem]
  have p2 : World.cell? (((((w.alloc (.cells #[.slice A xs.length C, .int .i64 lo, .int .i64 hi] 24)).alloc (.cells #[.int .i64 a, .int .i64 b, .int .i64 c] 26)).alloc (.cells #[.int .i64 d, .int .i64 e, .int .i64 f] 26)).alloc (.cells #[.int .i64 0, .int .i64 0] 37)).alloc (.cells #[.int .i64 0, .int .i64 0] 37)) ⟨w.heap.size, 2, none⟩ = some (.int .i64 hi) := by simp [go_sem]
  have lp : w.heap.size < (((((w.alloc (.cells #[.slice A xs.length C, .int .i64 lo, .int .i64 hi] 24)).alloc (.cells #[.int .i64 a, .int .i64 b, .int .i64 c] 26)).alloc (.cells #[.int .i64 d, .int .i64 e, .int .i64 f] 26)).alloc (.cells #[.int .i64 0, .int .i64 0] 37)).alloc (.cells #[.int .i64 0, .int .i64 0] 37)).heap.size := by simp <;> omega
  have q0 : World.cell? (((((w.alloc (.cells #[.slice A xs.length C, .int .i64 lo, .int .i64 hi] 24)).alloc (.cells #[.int .i64 a, .int .i64 b, .int .i64 c] 26)).alloc (.cells #[.int .i64 d, .int .i64 e, .int .i64 f] 26)).alloc (.cells #[.int .i64 0, .int .i64 0] 37)).alloc (.cells #[.int .i64 0, .int .i64 0] 37)) ⟨w.heap.size + 1, 0, none⟩ = some (.int .i64 a) := by simp [go_sem]
  have q1 : World.cell? (((((w.alloc (.cells #[.slice A xs.length C, .int .i64 lo, .int .i64 hi] 24)).alloc (.cells #[.int .i64 a, .int .i64 b, .int .i64 c] 26)).alloc (.cells #[.int .i64 d, .int .i64 e, .int .i64 f] 26)).alloc (.cells #[.int .i64 0, .int .i64 0] 37)).alloc (.cells #[.int .i64 0, .int .i64 0] 37)) ⟨w.heap.size + 1, 1, none⟩ = some (.int .i64 b) := by simp [go_sem]
  have q2 : World.cell? (((((w.alloc (.cells #[.slice A xs.length C, .int .i64 lo, .int .i64 hi] 24)).alloc (.cells #[.int .i64 a, .int .i64 b, .int .i64 c] 26)).alloc (.cells #[.int .i64 d, .int .i64 e, .int .i64 f] 26)).alloc (.cells #[.int .i64 0, .int .i64 0] 37)).alloc (.cells #[.int .i64 0, .int .i64 0] 37)) ⟨w.heap.size + 1, 2, none⟩ = some (.int .i64 c) := by simp [go_sem]
  have lq : w.heap.size + 1 < (((((w.alloc (.cells #[.slice A xs.length C, .int .i64 lo, .int .i64 hi] 24)).alloc (.cells #[.int .i64 a, .int .i64 b, .int .i64 c] 26)).alloc (.cells #[.int .i64 d, .int .i64 e, .int .i64 f] 26)).alloc (.cells #[.int .i64 0, .int .i64 0] 37)).alloc (.cells #[.int .i64 0, .int .i64 0] 37)).heap.size := by simp <;> omega
  have s0 : World.cell? (((((w.alloc (.cells #[.slice A xs.length C, .int .i64 lo, .int .i64 hi] 24)).alloc (.cells #[.int .i64 a, .int .i64 b, .int .i64 c] 26)).alloc (.cells #[.int .i64 d, .int .i64 e, .int .i64 f] 26)).alloc (.cells #[.int .i64 0, .int .i64 0] 37)).alloc (.cells #[.int .i64 0, .int .i64 0] 37)) ⟨w.heap.size + 1 + 1, 0, none⟩ = some (.int .i64 d) := by simp [go_sem]
  have s1 : World.cell? (((((w.alloc (.cells #[.slice A xs.length C, .int .i64 lo, .int .i64 hi] 24)).alloc (.cells #[.int .i64 a, .int .i64 b, .int .i64 c] 26)).alloc (.cells #[.int .i64 d, .int .i64 e, .int .i64 f] 26)).alloc (.cells #[.int .i64 0, .int .i64 0] 37)).alloc (.cells #[.int .i64 0, .int .i64 0] 37)) ⟨w.heap.size + 1 + 1, 1, none⟩ = some (.int .i64 e) := by simp [go_sem]
  have s2 : World.cell? (((((w.alloc (.cells #[.slice A xs.length C, .int .i64 lo, .int .i64 hi] 24)).alloc (.cells #[.int .i64 a, .int .i64 b, .int .i64 c] 26)).alloc (.cells #[.int .i64 d, .int .i64 e, .int .i64 f] 26)).alloc (.cells #[.int .i64 0, .int .i64 0] 37)).alloc (.cells #[.int .i64 0, .int .i64 0] 37)) ⟨w.heap.size + 1 + 1, 2, none⟩ = some (.int .i64 f) := by simp [go_sem]
  have ls : w.heap.size + 1 + 1 < (((((w.alloc (.cells #[.slice A xs.length C, .int .i64 lo, .int .i64 hi] 24)).alloc (.cells #[.int .i64 a, .int .i64 b, .int .i64 c] 26)).alloc (.cells #[.int .i64 d, .int .i64 e, .int .i64 f] 26)).alloc (.cells #[.int .i64 0, .int .i64 0] 37)).alloc (.cells #[.int .i64 0, .int .i64 0] 37)).heap.size := by simp <;> omega
  have x0 : World.cell? (((((w.alloc (.cells #[.slice A xs.length C, .int .i64 lo, .int .i64 hi] 24)).alloc (.cells #[.int .i64 a, .int .i64 b, .int .i64 c] 26)).alloc (.cells #[.int .i64 d, .int .i64 e, .int .i64 f] 26)).alloc (.cells #[.int .i64 0, .int .i64 0] 37)).alloc (.cells #[.int .i64 0, .int .i64 0] 37)) ⟨w.heap.size + 1 + 1 + 1, 0, none⟩ = some (.int .i64 0) := by simp [go_sem]
  have fx0 : World.frozen? (((((w.alloc (.cells #[.slice A xs.length C, .int .i64 lo, .int .i64 hi] 24)).alloc (.cells #[.int .i64 a, .int .i64 b, .int .i64 c] 26)).alloc (.cells #[.int .i64 d, .int .i64 e, .int .i64 f] 26)).alloc (.cells #[.int .i64 0, .int .i64 0] 37)).alloc (.cells #[.int .i64 0, .int .i64 0] 37)) ⟨w.heap.size + 1 + 1 + 1, 0, none⟩ = false := by simp [go_sem]
  have x1 : World.cell? (((((w.alloc (.cells #[.slice A xs.length C, .int .i64 lo, .int .i64 hi] 24)).alloc (.cells #[.int .i64 a, .int .i64 b, .int .i64 c] 26)).alloc (.cells #[.int .i64 d, .int .i64 e, .int .i64 f] 26)).alloc (.cells #[.int .i64 0, .int .i64 0] 37)).alloc (.cells #[.int .i64 0, .int .i64 0] 37)) ⟨w.heap.size + 1 + 1 + 1, 1, none⟩ = some (.int .i64 0) := by simp [go_sem]
  have fx1 : World.frozen? (((((w.alloc (.cells #[.slice A xs.length C, .int .i64 lo, .int .i64 hi] 24)).alloc (.cells #[.int .i64 a, .int .i64 b, .int .i64 c] 26)).alloc (.cells #[.int .i64 d, .int .i64 e, .int .i64 f] 26)).alloc (.cells #[.int .i64 0, .int .i64 0] 37)).alloc (.cells #[.int .i64 0, .int .i64 0] 37)) ⟨w.heap.size + 1 + 1 + 1, 1, none⟩ = false := by simp [go_sem]
  have lx : w.heap.size + 1 + 1 + 1 < (((((w.alloc (.cells #[.slice A xs.length C, .int .i64 lo, .int .i64 hi] 24)).alloc (.cells #[.int .i64 a, .int .i64 b, .int .i64 c] 26)).alloc (.cells #[.int .i64 d, .int .i64 e, .int .i64 f] 26)).alloc (.cells #[.int .i64 0, .int .i64 0] 37)).alloc (.cells #[.int .i64 0, .int .i64 0] 37)).heap.size := by simp <;> omega
  have y0 : World.cell? (((((w.alloc (.cells #[.slice A xs.length C, .int .i64 lo, .int .i64 hi] 24)).alloc (.cells #[.int .i64 a, .int .i64 b, .int .i64 c] 26)).alloc (.cells #[.int .i64 d, .int .i64 e, .int .i64 f] 26)).alloc (.cells #[.int .i64 0, .int .i64 0] 37)).alloc (.cells #[.int .i64 0, .int .i64 0] 37)) ⟨w.heap.size + 1 + 1 + 1 + 1, 0, none⟩ = some (.int .i64 0) := by simp [go_sem]
  have fy0 : World.frozen? (((((w.alloc (.cells #[.slice A xs.length C, .int .i64 lo, .int .i64 hi] 24)).alloc (.cells #[.int .i64 a, .int .i64 b, .int .i64 c] 26)).alloc (.cells #[.int .i64 d, .int .i64 e, .int .i64 f] 26)).alloc (.cells #[.int .i64 0, .int .i64 0] 37)).alloc (.cells #[.int .i64 0, .int .i64 0] 37)) ⟨w.heap.size + 1 + 1 + 1 + 1, 0, none⟩ = false := by simp [go_sem]
  have y1 : World.cell? (((((w.alloc (.cells #[.slice A xs.length C, .int .i64 lo, .int .i64 hi] 24)).alloc (.cells #[.int .i64 a, .int .i64 b, .int .i64 c] 26)).alloc (.cells #[.int .i64 d, .int .i64 e, .int .i64 f] 26)).alloc (.cells #[.int .i64 0, .int .i64 0] 37)).alloc (.cells #[.int .i64 0, .int .i64 0] 37)) ⟨w.heap.size + 1 + 1 + 1 + 1, 1, none⟩ = some (.int .i64 0) := by simp [go_sem]
  have fy1 : World.frozen? (((((w.alloc (.cells #[.slice A xs.length C, .int .i64 lo, .int .i64 hi] 24)).alloc (.cells #[.int .i64 a, .int .i64 b, .int .i64 c] 26)).alloc (.cells #[.int .i64 d, .int .i64 e, .int .i64 f] 26)).alloc (.cells #[.int .i64 0, .int .i64 0] 37)).alloc (.cells #[.int .i64 0, .int .i64 0] 37)) ⟨w.heap.size + 1 + 1 + 1 + 1, 1, none⟩ = false := by simp [go_sem]
  have ly : w.heap.size + 1 + 1 + 1 + 1 < (((((w.alloc (.cells #[.slice A xs.length C, .int .i64 lo, .int .i64 hi] 24)).alloc (.cells #[.int .i64 a, .int .i64 b, .int .i64 c] 26)).alloc (.cells #[.int .i64 d, .int .i64 e, .int .i64 f] 26)).alloc (.cells #[.int .i64 0, .int .i64 0] 37)).alloc (.cells #[.int .i64 0, .int .i64 0] 37)).heap.size := by simp <;> omega
  have HB := Lib.hid (show Below w.heap.size w (((((w.alloc (.cells #[.slice A xs.length C, .int .i64 lo, .int .i64 hi] 24)).alloc (.cells #[.int .i64 a, .int .i64 b, .int .i64 c] 26)).alloc (.cells #[.int .i64 d, .int .i64 e, .int .i64 f] 26)).alloc (.cells #[.int .i64 0, .int .i64 0] 37)).alloc (.cells #[.int .i64 0, .int .i64 0] 37)) from ((((((Below.refl _ _).alloc (by simp <;> omega) _).alloc (by simp <;> omega) _).alloc (by simp <;> omega) _).alloc (by simp <;> omega) _).alloc (by simp <;> omega) _))
  go_enter Try.func24, Try.ntmps24
  go_upto_region 1 with fail
  generalize ((((w.alloc (.cells #[.slice A xs.length C, .int .i64 lo, .int .i64 hi] 24)).alloc (.cells #[.int .i64 a, .int .i64 b, .int .i64 c] 26)).alloc (.cells #[.int .i64 d, .int .i64 e, .int .i64 f] 26)).alloc (.cells #[.int .i64 0, .int .i64 0] 37)).alloc (.cells #[.int .i64 0, .int .i64 0] 37) = w1 at *
  replace HL := Lib.hid (HL.out.below HB.out)
  go_wp2_with fail
  have z0 : World.cell? (w1.alloc (.cells #[.int .i64 0, .int .i64 1] 37)) ⟨w1.heap.size, 0, none⟩ = some (.int .i64 0) := by simp [go_sem]
  have z1 : World.cell? (w1.alloc (.cells #[.int .i64 0, .int .i64 1] 37)) ⟨w1.heap.size, 1, none⟩ = some (.int .i64 1) := by simp [go_sem]
  have lz : w1.heap.size < (w1.alloc (.cells #[.int .i64 0, .int .i64 1] 37)).heap.size := by simp
  have hb : Below w1.heap.size w1 (w1.alloc (.cells #[.int .i64 0, .int .i64 1] 37)) := below_new _ _
  generalize w1.alloc (.cells #[.int .i64 0, .int .i64 1] 37) = w2 at *
  replace HB := Lib.hid (on_below HB.out hb)
  replace HL := Lib.hid (HL.out.below hb)
  replace p0 := keepc hb p0
  replace p1 := keepc hb p1
  replace p2 := keepc hb p2
  replace q0 := keepc hb q0
  replace q1 := keepc hb q1
  replace q2 := keepc hb q2
  replace s0 := keepc hb s0
  replace s1 := keepc hb s1
  replace s2 := keepc hb s2
  replace x0 := keepc hb x0
  replace x1 := keepc hb x1
  replace y0 := keepc hb y0
  replace y1 := keepc hb y1
  replace fx0 := keepf hb lx fx0
  replace fx1 := keepf hb lx fx1
  replace fy0 := keepf hb ly fy0
  replace fy1 := keepf hb ly fy1
  replace lp := Nat.lt_of_lt_of_le lp hb.size
  replace lq := Nat.lt_of_lt_of_le lq hb.size
  replace ls := Nat.lt_of_lt_of_le ls hb.size
  replace lx := Nat.lt_of_lt_of_le lx hb.size
  replace ly := Nat.lt_of_lt_of_le ly hb.size
  clear hb
  generalize w1.heap.size = gz at *
  go_wp2_with fail
  with_reducible refine (CA.out _ HL.out).mono ?_
  rintro e_ w3 ⟨rfl, hb⟩
  replace HB := Lib.hid (on_below HB.out hb)
  replace HL := Lib.hid (HL.out.below hb)
  replace p0 := keepc hb p0
  replace p1 := keepc hb p1
  replace p2 := keepc hb p2
  replace q0 := keepc hb q0
  replace q1 := keepc hb q1
  replace q2 := keepc hb q2
  replace s0 := keepc hb s0
  replace s1 := keepc hb s1
  replace s2 := keepc hb s2
  replace x0 := keepc hb x0
  replace x1 := keepc hb x1
  replace y0 := keepc hb y0
  replace y1 := keepc hb y1
  replace z0 := keepc hb z0
  replace z1 := keepc hb z1
  replace fx0 := keepf hb lx fx0
  replace fx1 := keepf hb lx fx1
  replace fy0 := keepf hb ly fy0
  replace fy1 := keepf hb ly fy1
  replace lp := Nat.lt_of_lt_of_le lp hb.size
  replace lq := Nat.lt_of_lt_of_le lq hb.size
  replace ls := Nat.lt_of_lt_of_le ls hb.size
  replace lx := Nat.lt_of_lt_of_le lx hb.size
  replace ly := Nat.lt_of_lt_of_le ly hb.size
  replace lz := Nat.lt_of_lt_of_le lz hb.size
  clear hb
  go_wp2_with fail
  with_reducible refine (CB.out _).mono ?_
  rintro e_ w4 ⟨rfl, hb⟩
  replace HB := Lib.hid (on_below HB.out hb)
  replace HL := Lib.hid (HL.out.below hb)
  replace p0 := keepc hb p0
  replace p1 := keepc hb p1
  replace p2 := keepc hb p2
  replace q0 := keepc hb q0
  replace q1 := keepc hb q1
  replace q2 := keepc hb q2
  replace s0 := keepc hb s0
  replace s1 := keepc hb s1
  replace s2 := keepc hb s2
  replace x0 := keepc hb x0
  replace x1 := keepc hb x1
  replace y0 := keepc hb y0
  replace y1 := keepc hb y1
  replace z0 := keepc hb z0
  replace z1 := keepc hb z1
  replace fx0 := keepf hb lx fx0
  replace fx1 := keepf hb lx fx1
  replace fy0 := keepf hb ly fy0
  replace fy1 := keepf hb ly fy1
  replace lp := Nat.lt_of_lt_of_le lp hb.size
  replace lq := Nat.lt_of_lt_of_le lq hb.size
  replace ls := Nat.lt_of_lt_of_le ls hb.size
  replace lx := Nat.lt_of_lt_of_le lx hb.size
  replace ly := Nat.lt_of_lt_of_le ly hb.size
  replace lz := Nat.lt_of_lt_of_le lz hb.size
  clear hb
  go_wp2_with fail
  with_reducible refine (CC.out _).mono ?_
  rintro e_ w5 ⟨rfl, hb⟩
  replace HB := Lib.hid (on_below HB.out hb)
  replace HL := Lib.hid (HL.out.below hb)
  replace p0 := keepc hb p0
  replace p1 := keepc hb p1
  replace p2 := keepc hb p2
  replace q0 := keepc hb q0
  replace q1 := keepc hb q1
  replace q2 := keepc hb q2
  replace s0 := keepc hb s0
  replace s1 := keepc hb s1
  replace s2 := keepc hb s2
  replace x0 := keepc hb x0
  replace x1 := keepc hb x1
  replace y0 := keepc hb y0
  replace y1 := keepc hb y1
  replace z0 := keepc hb z0
  replace z1 := keepc hb z1
  replace fx0 := keepf hb lx fx0
  replace fx1 := keepf hb lx fx1
  replace fy0 := keepf hb ly fy0
  replace fy1 := keepf hb ly fy1
  replace lp := Nat.lt_of_lt_of_le lp hb.size
  replace lq := Nat.lt_of_lt_of_le lq hb.size
  replace ls := Nat.lt_of_lt_of_le ls hb.size
  replace lx := Nat.lt_of_lt_of_le lx hb.size
  replace ly := Nat.lt_of_lt_of_le ly hb.size
  replace lz := Nat.lt_of_lt_of_le lz hb.size
  clear hb
  go_wp2_with fail
  refine bodyPost_ret (v := .tuple #[.agg #[.int .i64 0, .int .i64 0], .agg #[.int .i64 0, .int .i64 0], .bool false, .int .i64 1]) (by simp [results, Try.results24, go_sem, x0, x1, y0, y1]) rfl ⟨rfl, ?_⟩
  repeat (first | (with_reducible exact HB.out) | (refine Below.setCell ?_ (by first | exact Nat.le_refl _ | (simp; done) | (simp; omega) | omega) _) | (refine Below.alloc ?_ (by first | exact Nat.le_refl _ | (simp; done) | (simp; omega) | omega) _) | (refine Below.drew ?_) | (refine below_drewN' ?_ _))
set_option maxRecDepth 100000 in
set_option maxHeartbeats 2000000 in
theorem qclip_3 (A : Option Addr) (C : Nat) (xs : List (Int × Int)) (lo hi a b c d e f : Int) (hlx : xs.length ≤ 9223372036854775807) (hra : true = true ↔ Bok xs lo hi) (hrb : vv a b c = true) (hrc : vv d e f = false) (w : World) (hl : SlS w A xs) :
    Calls Try.prog 24 #[.agg #[.slice A xs.length C, .int .i64 lo, .int .i64 hi], .agg #[.int .i64 a, .int .i64 b, .int .i64 c], .agg #[.int .i64 d, .int .i64 e, .int .i64 f]] w fun e_ w' => e_ = .returned (.tuple #[.agg #[.int .i64 0, .int .i64 0], .agg #[.int .i64 0, .int .i64 0], .bool false, .int .i64 1]) ∧ Below w.heap.size w w' := by
  have CA := Lib.hid (fun W (h : SlS W A xs) => qvalid_is A C xs lo hi hlx true hra W h)
  have CB := Lib.hid (fun W => qpoint_is a b c true hrb W)
  have CC := Lib.hid (fun W => qpoint_is d e f false hrc W)
  clear hra hrb hrc
  have HL := Lib.hid hl
  clear hl
  have p0 : World.cell? (((((w.alloc (.cells #[.slice A xs.length C, .int .i64 lo, .int .i64 hi] 24)).alloc (.cells #[.int .i64 a, .int .i64 b, .int .i64 c] 26)).alloc (.cells #[.int .i64 d, .int .i64 e, .int .i64 f] 26)).alloc (.cells #[.int .i64 0, .int .i64 0] 37)).alloc (.cells #[.int .i64 0, .int .i64 0] 37)) ⟨w.heap.size, 0, none⟩ = some (.slice A xs.length C) := by simp [go_sem]
  have p1 : World.cell? (((((w.alloc (.cells #[.slice A xs.length C, .int .i64 lo, .int .i64 hi] 24)).alloc (.cells #[.int .i64 a, .int .i64 b, .int .i64 c] 26)).alloc (.cells #[.int .i64 d, .int .i64 e, .int .i64 f] 26)).alloc (.cells #[.int .i64 0, .int .i64 0] 37)).alloc (.cells #[.int .i64 0, .int .i64 0] 37)) ⟨w.heap.size, 1, none⟩ = some (.int .i64 lo) := by simp [go_sem]
  have p2 : World.cell? (((((w.alloc (.cells #[.slice A xs.length C, .int .i64 lo, .int .i64 hi] 24)).alloc (.cells #[.int .i64 a, .int .i64 b, .int .i64 c] 26)).alloc (.cells #[.int .i64 d, .int .i64 e, .int .i64 f] 26)).alloc (.cells #[.int .i64 0, .int .i64 0] 37)).alloc (.cells #[.int .i64 0, .int .i64 0] 37)) ⟨w.heap.size, 2, none⟩ = some (.int .i64 hi) := by simp [go_sem]
  have lp : w.heap.size < (((((w.alloc (.cells #[.slice A xs.length C, .int .i64 lo, .int .i64 hi] 24)).alloc (.cells #[.int .i64 a, .int .i64 b, .int .i64 c] 26)).alloc (.cells #[.int .i64 d, .int .i64 e, .int .i64 f] 26)).alloc (.cells #[.int .i64 0, .int .i64 0] 37)).alloc (.cells #[.int .i64 0, .int .i64 0] 37)).heap.size := by simp <;> omega
  have q0 : World.cell? (((((w.alloc (.cells #[.slice A xs.length C, .int .i64 lo, .int .i64 hi] 24)).alloc (.cells #[.int .i64 a, .int .i64 b, .int .i64 c] 26)).alloc (.cells #[.int .i64 d, .int .i64 e, .int .i64 f] 26)).alloc (.cells #[.int .i64 0, .int .i64 0] 37)).alloc (.cells #[.int .i64 0, .int .i64 0] 37)) ⟨w.heap.size + 1, 0, none⟩ = some (.int .i64 a) := by simp [go_sem]
  have q1 : World.cell? (((((w.alloc (.cells #[.slice A xs.length C, .int .i64 lo, .int .i64 hi] 24)).alloc (.cells #[.int .i64 a, .int .i64 b, .int .i64 c] 26)).alloc (.cells #[.int .i64 d, .int .i64 e, .int .i64 f] 26)).alloc (.cells #[.int .i64 0, .int .i64 0] 37)).alloc (.cells #[.int .i64 0, .int .i64 0] 37)) ⟨w.heap.size + 1, 1, none⟩ = some (.int .i64 b) := by simp [go_sem]
  have q2 : World.cell? (((((w.alloc (.cells #[.slice A xs.length C, .int .i64 lo, .int .i64 hi] 24)).alloc (.cells #[.int .i64 a, .int .i64 b, .int .i64 c] 26)).alloc (.cells #[.int .i64 d, .int .i64 e, .int .i64 f] 26)).alloc (.cells #[.int .i64 0, .int .i64 0] 37)).alloc (.cells #[.int .i64 0, .int .i64 0] 37)) ⟨w.heap.size + 1, 2, none⟩ = some (.int .i64 c) := by simp [go_sem]
  have lq : w.heap.size + 1 < (((((w.alloc (.cells #[.slice A xs.length C, .int .i64 lo, .int .i64 hi] 24)).alloc (.cells #[.int .i64 a, .int .i64 b, .int .i64 c] 26)).alloc (.cells #[.int .i64 d, .int .i64 e, .int .i64 f] 26)).alloc (.cells #[.int .i64 0, .int .i64 0] 37)).alloc (.cells #[.int .i64 0, .int .i64 0] 37)).heap.size := by simp <;> omega
  have s0 : World.cell? (((((w.alloc (.cells #[.slice A xs.length C, .int .i64 lo, .int .i64 hi] 24)).alloc (.cells #[.int .i64 a, .int .i64 b, .int .i64 c] 26)).alloc (.cells #[.int .i64 d, .int .i64 e, .int .i64 f] 26)).alloc (.cells #[.int .i64 0, .int .i64 0] 37)).alloc (.cells #[.int .i64 0, .int .i64 0] 37)) ⟨w.heap.size + 1 + 1, 0, none⟩ = some (.int .i64 d) := by simp [go_sem]
  have s1 : World.cell? (((((w.alloc (.cells #[.slice A xs.length C, .int .i64 lo, .int .i64 hi] 24)).alloc (.cells #[.int .i64 a, .int .i64 b, .int .i64 c] 26)).alloc (.cells #[.int .i64 d, .int .i64 e, .int .i64 f] 26)).alloc (.cells #[.int .i64 0, .int .i64 0] 37)).alloc (.cells #[.int .i64 0, .int .i64 0] 37)) ⟨w.heap.size + 1 + 1, 1, none⟩ = some (.int .i64 e) := by simp [go_sem]
  have s2 : World.cell? (((((w.alloc (.cells #[.slice A xs.length C, .int .i64 lo, .int .i64 hi] 24)).alloc (.cells #[.int .i64 a, .int .i64 b, .int .i64 c] 26)).alloc (.cells #[.int .i64 d, .int .i64 e, .int .i64 f] 26)).alloc (.cells #[.int .i64 0, .int .i64 0] 37)).alloc (.cells #[.int .i64 0, .int .i64 0] 37)) ⟨w.heap.size + 1 + 1, 2, none⟩ = some (.int .i64 f) := by simp [go_sem]
  have ls : w.heap.size + 1 + 1 < (((((w.alloc (.cells #[.slice A xs.length C, .int .i64 lo, .int .i64 hi] 24)).alloc (.cells #[.int .i64 a, .int .i64 b, .int .i64 c] 26)).alloc (.cells #[.int .i64 d, .int .i64 e, .int .i64 f] 26)).alloc (.cells #[.int .i64 0, .int .i64 0] 37)).alloc (.cells #[.int .i64 0, .int .i64 0] 37)).heap.size := by simp <;> omega
  have x0 : World.cell? (((((w.alloc (.cells #[.slice A xs.length C, .int .i64 lo, .int .i64 hi] 24)).alloc (.cells #[.int .i64 a, .int .i64 b, .int .i64 c] 26)).alloc (.cells #[.int .i64 d, .int .i64 e, .int .i64 f] 26)).alloc (.cells #[.int .i64 0, .int .i64 0] 37)).alloc (.cells #[.int .i64 0, .int .i64 0] 37)) ⟨w.heap.size + 1 + 1 + 1, 0, none⟩ = some (.int .i64 0) := by simp [go_sem]
  have fx0 : World.frozen? (((((w.alloc (.cells #[.slice A xs.length C, .int .i64 lo, .int .i64 hi] 24)).alloc (.cells #[.int .i64 a, .int .i64 b, .int .i64 c] 26)).alloc (.cells #[.int .i64 d, .int .i64 e, .int .i64 f] 26)).alloc (.cells #[.int .i64 0, .int .i64 0] 37)).alloc (.cells #[.int .i64 0, .int .i64 0] 37)) ⟨w.heap.size + 1 + 1 + 1, 0, none⟩ = false := by simp [go_sem]
  have x1 : World.cell? (((((w.alloc (.cells #[.slice A xs.length C, .int .i64 lo, .int .i64 hi] 24)).alloc (.cells #[.int .i64 a, .int .i64 b, .int .i64 c] 26)).alloc (.cells #[.int .i64 d, .int .i64 e, .int .i64 f] 26)).alloc (.cells #[.int .i64 0, .int .i64 0] 37)).alloc (.cells #[.int .i64 0, .int .i64 0] 37)) ⟨w.heap.size + 1 + 1 + 1, 1, none⟩ = some (.int .i64 0) := by simp [go_sem]
  have fx1 : World.frozen? (((((w.alloc (.cells #[.slice A xs.length C, .int .i64 lo, .int .i64 hi] 24)).alloc (.cells #[.int .i64 a, .int .i64 b, .int .i64 c] 26)).alloc (.cells #[.int .i64 d, .int .i64 e, .int .i64 f] 26)).alloc (.cells #[.int .i64 0, .int .i64 0] 37)).alloc (.cells #[.int .i64 0, .int .i64 0] 37)) ⟨w.heap.size + 1 + 1 + 1, 1, none⟩ = false := by simp [go_sem]
  have lx : w.heap.size + 1 + 1 + 1 < (((((w.alloc (.cells #[.slice A xs.length C, .int .i64 lo, .int .i64 hi] 24)).alloc (.cells #[.int .i64 a, .int .i64 b, .int .i64 c] 26)).alloc (.cells #[.int .i64 d, .int .i64 e, .int .i64 f] 26)).alloc (.cells #[.int .i64 0, .int .i64 0] 37)).alloc (.cells #[.int .i64 0, .int .i64 0] 37)).heap.size := by simp <;> omega
  have y0 : World.cell? (((((w.alloc (.cells #[.slice A xs.length C, .int .i64 lo, .int .i64 hi] 24)).alloc (.cells #[.int .i64 a, .int .i64 b, .int .i64 c] 26)).alloc (.cells #[.int .i64 d, .int .i64 e, .int .i64 f] 26)).alloc (.cells #[.int .i64 0, .int .i64 0] 37)).alloc (.cells #[.int .i64 0, .int .i64 0] 37)) ⟨w.heap.size + 1 + 1 + 1 + 1, 0, none⟩ = some (.int .i64 0) := by simp [go_sem]
  have fy0 : World.frozen? (((((w.alloc (.cells #[.slice A xs.length C, .int .i64 lo, .int .i64 hi] 24)).alloc (.cells #[.int .i64 a, .int .i64 b, .int .i64 c] 26)).alloc (.cells #[.int .i64 d, .int .i64 e, .int .i64 f] 26)).alloc (.cells #[.int .i64 0, .int .i64 0] 37)).alloc (.cells #[.int .i64 0, .int .i64 0] 37)) ⟨w.heap.size + 1 + 1 + 1 + 1, 0, none⟩ = false := by simp [go_sem]
  have y1 : World.cell? (((((w.alloc (.cells #[.slice A xs.length C, .int .i64 lo, .int .i64 hi] 24)).alloc (.cells #[.int .i64 a, .int .i64 b, .int .i64 c] 26)).alloc (.cells #[.int .i64 d, .int .i64 e, .int .i64 f] 26)).alloc (.cells #[.int .i64 0, .int .i64 0] 37)).alloc (.cells #[.int .i64 0, .int .i64 0] 37)) ⟨w.heap.size + 1 + 1 + 1 + 1, 1, none⟩ = some (.int .i64 0) := by simp [go_sem]
  have fy1 : World.frozen? (((((w.alloc (.cells #[.slice A xs.length C, .int .i64 lo, .int .i64 hi] 24)).alloc (.cells #[.int .i64 a, .int .i64 b, .int .i64 c] 26)).alloc (.cells #[.int .i64 d, .int .i64 e, .int .i64 f] 26)).alloc (.cells #[.int .i64 0, .int .i64 0] 37)).alloc (.cells #[.int .i64 0, .int .i64 0] 37)) ⟨w.heap.size + 1 + 1 + 1 + 1, 1, none⟩ = false := by simp [go_sem]
  have ly : w.heap.size + 1 + 1 + 1 + 1 < (((((w.alloc (.cells #[.slice A xs.length C, .int .i64 lo, .int .i64 hi] 24)).alloc (.cells #[.int .i64 a, .int .i64 b, .int .i64 c] 26)).alloc (.cells #[.int .i64 d, .int .i64 e, .int .i64 f] 26)).alloc (.cells #[.int .i64 0, .int .i64 0] 37)).alloc (.cells #[.int .i64 0, .int .i64 0] 37)).heap.size := by simp <;> omega
  have HB := Lib.hid (show Below w.heap.size w (((((w.alloc (.cells #[.slice A xs.length C, .int .i64 lo, .int .i64 hi] 24)).alloc (.cells #[.int .i64 a, .int .i64 b, .int .i64 c] 26)).alloc (.cells #[.int .i64 d, .int .i64 e, .int .i64 f] 26)).alloc (.cells #[.int .i64 0, .int .i64 0] 37)).alloc (.cells #[.int .i64 0, .int .i64 0] 37)) from ((((((Below.refl _ _).alloc (by simp <;> omega) _).alloc (by simp <;> omega) _).alloc (by simp <;> omega) _).alloc (by simp <;> omega) _).alloc (by simp <;> omega) _))
  go_enter Try.func24, Try.ntmps24
  go_upto_region 1 with fail
  generalize ((((w.alloc (.cells #[.slice A xs.length C, .int .i64 lo, .int .i64 hi] 24)).alloc (.cells #[.int .i64 a, .int .i64 b, .int .i64 c] 26)).alloc (.cells #[.int .i64 d, .int .i64 e, .int .i64 f] 26)).alloc (.cells #[.int .i64 0, .int .i64 0] 37)).alloc (.cells #[.int .i64 0, .int .i64 0] 37) = w1 at *
  replace HL := Lib.hid (HL.out.below HB.out)
  go_wp2_with fail
  have z0 : World.cell? (w1.alloc (.cells #[.int .i64 0, .int .i64 1] 37)) ⟨w1.heap.size, 0, none⟩ = some (.int .i64 0) := by simp [go_sem]
  have z1 : World.cell? (w1.alloc (.cells #[.int .i64 0, .int .i64 1] 37)) ⟨w1.heap.size, 1, none⟩ = some (.int .i64 1) := by simp [go_sem]
  have lz : w1.heap.size < (w1.alloc (.cells #[.int .i64 0, .int .i64 1] 37)).heap.size := by simp
  have hb : Below w1.heap.size w1 (w1.alloc (.cells #[.int .i64 0, .int .i64 1] 37)) := below_new _ _
  generalize w1.alloc (.cells #[.int .i64 0, .int .i64 1] 37) = w2 at *
  replace HB := Lib.hid (on_below HB.out hb)
  replace HL := Lib.hid (HL.out.below hb)
  replace p0 := keepc hb p0
  replace p1 := keepc hb p1
  replace p2 := keepc hb p2
  replace q0 := keepc hb q0
  replace q1 := keepc hb q1
  replace q2 := keepc hb q2
  replace s0 := keepc hb s0
  replace s1 := keepc hb s1
  replace s2 := keepc hb s2
  replace x0 := keepc hb x0
  replace x1 := keepc hb x1
  replace y0 := keepc hb y0
  replace y1 := keepc hb y1
  replace fx0 := keepf hb lx fx0
  replace fx1 := keepf hb lx fx1
  replace fy0 := keepf hb ly fy0
  replace fy1 := keepf hb ly fy1
  replace lp := Nat.lt_of_lt_of_le lp hb.size
  replace lq := Nat.lt_of_lt_of_le lq hb.size
  replace ls := Nat.lt_of_lt_of_le ls hb.size
  replace lx := Nat.lt_of_lt_of_le lx hb.size
  replace ly := Nat.lt_of_lt_of_le ly hb.size
  clear hb
  generalize w1.heap.size = gz at *
  go_wp2_with fail
  with_reducible refine (CA.out _ HL.out).mono ?_
  rintro e_ w3 ⟨rfl, hb⟩
  replace HB := Lib.hid (on_below HB.out hb)
  replace HL := Lib.hid (HL.out.below hb)
  replace p0 := keepc hb p0
  replace p1 := keepc hb p1
  replace p2 := keepc hb p2
  replace q0 := keepc hb q0
  replace q1 := keepc hb q1
  replace q2 := keepc hb q2
  replace s0 := keepc hb s0
  replace s1 := keepc hb s1
  replace s2 := keepc hb s2
  replace x0 := keepc hb x0
  replace x1 := keepc hb x1
  replace y0 := keepc hb y0
  replace y1 := keepc hb y1
  replace z0 := keepc hb z0
  replace z1 := keepc hb z1
  replace fx0 := keepf hb lx fx0
  replace fx1 := keepf hb lx fx1
  replace fy0 := keepf hb ly fy0
  replace fy1 := keepf hb ly fy1
  replace lp := Nat.lt_of_lt_of_le lp hb.size
  replace lq := Nat.lt_of_lt_of_le lq hb.size
  replace ls := Nat.lt_of_lt_of_le ls hb.size
  replace lx := Nat.lt_of_lt_of_le lx hb.size
  replace ly := Nat.lt_of_lt_of_le ly hb.size
  replace lz := Nat.lt_of_lt_of_le lz hb.size
  clear hb
  go_wp2_with fail
  with_reducible refine (CB.out _).mono ?_
  rintro e_ w4 ⟨rfl, hb⟩
  replace HB := Lib.hid (on_below HB.out hb)
  replace HL := Lib.hid (HL.out.below hb)
  replace p0 := keepc hb p0
  replace p1 := keepc hb p1
  replace p2 := keepc hb p2
  replace q0 := keepc hb q0
  replace q1 := keepc hb q1
  replace q2 := keepc hb q2
  replace s0 := keepc hb s0
  replace s1 := keepc hb s1
  replace s2 := keepc hb s2
  replace x0 := keepc hb x0
  replace x1 := keepc hb x1
  replace y0 := keepc hb y0
  replace y1 := keepc hb y1
  replace z0 := keepc hb z0
  replace z1 := keepc hb z1
  replace fx0 := keepf hb lx fx0
  replace fx1 := keepf hb lx fx1
  replace fy0 := keepf hb ly fy0
  replace fy1 := keepf hb ly fy1
  replace lp := Nat.lt_of_lt_of_le lp hb.size
  replace lq := Nat.lt_of_lt_of_le lq hb.size
  replace ls := Nat.lt_of_lt_of_le ls hb.size
  replace lx := Nat.lt_of_lt_of_le lx hb.size
  replace ly := Nat.lt_of_lt_of_le ly hb.size
  replace lz := Nat.lt_of_lt_of_le lz hb.size
  clear hb
  go_wp2_with fail
  with_reducible refine (CC.out _).mono ?_
  rintro e_ w5 ⟨rfl, hb⟩
  replace HB := Lib.hid (on_below HB.out hb)
  replace HL := Lib.hid (HL.out.below hb)
  replace p0 := keepc hb p0
  replace p1 := keepc hb p1
  replace p2 := keepc hb p2
  replace q0 := keepc hb q0
  replace q1 := keepc hb q1
  replace q2 := keepc hb q2
  replace s0 := keepc hb s0
  replace s1 := keepc hb s1
  replace s2 := keepc hb s2
  replace x0 := keepc hb x0
  replace x1 := keepc hb x1
  replace y0 := keepc hb y0
  replace y1 := keepc hb y1
  replace z0 := keepc hb z0
  replace z1 := keepc hb z1
  replace fx0 := keepf hb lx fx0
  replace fx1 := keepf hb lx fx1
  replace fy0 := keepf hb ly fy0
  replace fy1 := keepf hb ly fy1
  replace lp := Nat.lt_of_lt_of_le lp hb.size
  replace lq := Nat.lt_of_lt_of_le lq hb.size
  replace ls := Nat.lt_of_lt_of_le ls hb.size
  replace lx := Nat.lt_of_lt_of_le lx hb.size
  replace ly := Nat.lt_of_lt_of_le ly hb.size
  replace lz := Nat.lt_of_lt_of_le lz hb.size
  clear hb
  go_wp2_with fail
  refine bodyPost_ret (v := .tuple #[.agg #[.int .i64 0, .int .i64 0], .agg #[.int .i64 0, .int .i64 0], .bool false, .int .i64 1]) (by simp [results, Try.results24, go_sem, x0, x1, y0, y1]) rfl ⟨rfl, ?_⟩
  repeat (first | (with_reducible exact HB.out) | (refine Below.setCell ?_ (by first | exact Nat.le_refl _ | (simp; done) | (simp; omega) | omega) _) | (refine Below.alloc ?_ (by first | exact Nat.le_refl _ | (simp; done) | (simp; omega) | omega) _) | (refine Below.drew ?_) | (refine below_drewN' ?_ _))
set_option maxRecDepth 100000 in
set_option maxHeartbeats 2000000 in
theorem qclip_4 (A : Option Addr) (C : Nat) (xs : List (Int × Int)) (lo hi a b c d e f : Int) (hlx : xs.length ≤ 9223372036854775807) (hra : true = true ↔ Bok xs lo hi) (hrb : vv a b c = true) (hrc : vv d e f = true) (hq : a = d ∧ b = e ∧ c = f) (w : World) (hl : SlS w A xs) :
    Calls Try.prog 24 #[.agg #[.slice A xs.length C, .int .i64 lo, .int .i64 hi], .agg #[.int .i64 a, .int .i64 b, .int .i64 c], .agg #[.int .i64 d, .int .i64 e, .int .i64 f]] w fun e_ w' => e_ = .returned (.tuple #[.agg #[.int .i64 0, .int .i64 0], .agg #[.int .i64 0, .int .i64 0], .bool false, .int .i64 1]) ∧ Below w.heap.size w w' := by
  have he : ∀ W, (binOp .eql 26 (.agg #[.int .i64 a, .int .i64 b, .int .i64 c]) (.agg #[.int .i64 d, .int .i64 e, .int .i64 f])).run Try.prog W = .ok (.bool true) W := fun W => vec_eq (r := true) (decide_eq_true hq) W
  clear hq
  have CA := Lib.hid (fun W (h : SlS W A xs) => qvalid_is A C xs lo hi hlx true hra W h)
  have CB := Lib.hid (fun W => qpoint_is a b c true hrb W)
  have CC := Lib.hid (fun W => qpoint_is d e f true hrc W)
  clear hra hrb hrc
  have HL := Lib.hid hl
  clear hl
  have p0 : World.cell? (((((w.alloc (.cells #[.slice A xs.length C, .int .i64 lo, .int .i64 hi] 24)).alloc (.cells #[.int .i64 a, .int .i64 b, .int .i64 c] 26)).alloc (.cells #[.int .i64 d, .int .i64 e, .int .i64 f] 26)).alloc (.cells #[.int .i64 0, .int .i64 0] 37)).alloc (.cells #[.int .i64 0, .int .i64 0] 37)) ⟨w.heap.size, 0, none⟩ = some (.slice A xs.length C) := by simp [go_sem]
  have p1 : World.cell? (((((w.alloc (.cells #[.slice A xs.length C, .int .i64 lo, .int .i64 hi] 24)).alloc (.cells #[.int .i64 a, .int .i64 b, .int .i64 c] 26)).alloc (.cells #[.int .i64 d, .int .i64 e, .int .i64 f] 26)).alloc (.cells #[.int .i64 0, .int .i64 0] 37)).alloc (.cells #[.int .i64 0, .int .i64 0] 37)) ⟨w.heap.size, 1, none⟩ = some (.int .i64 lo) := by simp [go_sem]
  have p2 : World.cell? (((((w.alloc (.cells #[.slice A xs.length C, .int .i64 lo, .int .i64 hi] 24)).alloc (.cells #[.int .i64 a, .int .i64 b, .int .i64 c] 26)).alloc (.cells #[.int .i64 d, .int .i64 e, .int .i64 f] 26)).alloc (.cells #[.int .i64 0, .int .i64 0] 37)).alloc (.cells #[.int .i64 0, .int .i64 0] 37)) ⟨w.heap.size, 2, none⟩ = some (.int .i64 hi) := by simp [go_sem]
  have lp : w.heap.size < (((((w.alloc (.cells #[.slice A xs.length C, .int .i64 lo, .int .i64 hi] 24)).alloc (.cells #[.int .i64 a, .int .i64 b, .int .i64 c] 26)).alloc (.cells #[.int .i64 d, .int .i64 e, .int .i64 f] 26)).alloc (.cells #[.int .i64 0, .int .i64 0] 37)).alloc (.cells #[.int .i64 0, .int .i64 0] 37)).heap.size := by simp <;> omega
  have q0 : World.cell? (((((w.alloc (.cells #[.slice A xs.length C, .int .i64 lo, .int .i64 hi] 24)).alloc (.cells #[.int .i64 a, .int .i64 b, .int .i64 c] 26)).alloc (.cells #[.int .i64 d, .int .i64 e, .int .i64 f] 26)).alloc (.cells #[.int .i64 0, .int .i64 0] 37)).alloc (.cells #[.int .i64 0, .int .i64 0] 37)) ⟨w.heap.size + 1, 0, none⟩ = some (.int .i64 a) := by simp [go_sem]
  have q1 : World.cell? (((((w.alloc (.cells #[.slice A xs.length C, .int .i64 lo, .int .i64 hi] 24)).alloc (.cells #[.int .i64 a, .int .i64 b, .int .i64 c] 26)).alloc (.cells #[.int .i64 d, .int .i64 e, .int .i64 f] 26)).alloc (.cells #[.int .i64 0, .int .i64 0] 37)).alloc (.cells #[.int .i64 0, .int .i64 0] 37)) ⟨w.heap.size + 1, 1, none⟩ = some (.int .i64 b) := by simp [go_sem]
  have q2 : World.cell? (((((w.alloc (.cells #[.slice A xs.length C, .int .i64 lo, .int .i64 hi] 24)).alloc (.cells #[.int .i64 a, .int .i64 b, .int .i64 c] 26)).alloc (.cells #[.int .i64 d, .int .i64 e, .int .i64 f] 26)).alloc (.cells #[.int .i64 0, .int .i64 0] 37)).alloc (.cells #[.int .i64 0, .int .i64 0] 37)) ⟨w.heap.size + 1, 2, none⟩ = some (.int .i64 c) := by simp [go_sem]
  have lq : w.heap.size + 1 < (((((w.alloc (.cells #[.slice A xs.length C, .int .i64 lo, .int .i64 hi] 24)).alloc (.cells #[.int .i64 a, .int .i64 b, .int .i64 c] 26)).alloc (.cells #[.int .i64 d, .int .i64 e, .int .i64 f] 26)).alloc (.cells #[.int .i64 0, .int .i64 0] 37)).alloc (.cells #[.int .i64 0, .int .i64 0] 37)).heap.size := by simp <;> omega
  have s0 : World.cell? (((((w.alloc (.cells #[.slice A xs.length C, .int .i64 lo, .int .i64 hi] 24)).alloc (.cells #[.int .i64 a, .int .i64 b, .int .i64 c] 26)).alloc (.cells #[.int .i64 d, .int .i64 e, .int .i64 f] 26)).alloc (.cells #[.int .i64 0, .int .i64 0] 37)).alloc (.cells #[.int .i64 0, .int .i64 0] 37)) ⟨w.heap.size + 1 + 1, 0, none⟩ = some (.int .i64 d) := by simp [go_sem]
  have s1 : World.cell? (((((w.alloc (.cells #[.slice A xs.length C, .int .i64 lo, .int .i64 hi] 24)).alloc (.cells #[.int .i64 a, .int .i64 b, .int .i64 c] 26)).alloc (.cells #[.int .i64 d, .int .i64 e, .int .i64 f] 26)).alloc (.cells #[.int .i64 0, .int .i64 0] 37)).alloc (.cells #[.int .i64 0, .int .i64 0] 37)) ⟨w.heap.size + 1 + 1, 1, none⟩ = some (.int .i64 e) := by simp [go_sem]
  have s2 : World.cell? (((((w.alloc (.cells #[.slice A xs.length C, .int .i64 lo, .int .i64 hi] 24)).alloc (.cells #[.int .i64 a, .int .i64 b, .int .i64 c] 26)).alloc (.cells #[.int .i64 d, .int .i64 e, .int .i64 f] 26)).alloc (.cells #[.int .i64 0, .int .i64 0] 37)).alloc (.cells #[.int .i64 0, .int .i64 0] 37)) ⟨w.heap.size + 1 + 1, 2, none⟩ = some (.int .i64 f) := by simp [go_sem]
  have ls : w.heap.size + 1 + 1 < (((((w.alloc (.cells #[.slice A xs.length C, .int .i64 lo, .int .i64 hi] 24)).alloc (.cells #[.int .i64 a, .int .i64 b, .int .i64 c] 26)).alloc (.cells #[.int .i64 d, .int .i64 e, .int .i64 f] 26)).alloc (.cells #[.int .i64 0, .int .i64 0] 37)).alloc (.cells #[.int .i64 0, .int .i64 0] 37)).heap.size := by simp <;> omega
  have x0 : World.cell? (((((w.alloc (.cells #[.slice A xs.length C, .int .i64 lo, .int .i64 hi] 24)).alloc (.cells #[.int .i64 a, .int .i64 b, .int .i64 c] 26)).alloc (.cells #[.int .i64 d, .int .i64 e, .int .i64 f] 26)).alloc (.cells #[.int .i64 0, .int .i64 0] 37)).alloc (.cells #[.int .i64 0, .int .i64 0] 37)) ⟨w.heap.size + 1 + 1 + 1, 0, none⟩ = some (.int .i64 0) := by simp [go_sem]
  have fx0 : World.frozen? (((((w.alloc (.cells #[.slice A xs.length C, .int .i64 lo, .int .i64 hi] 24)).alloc (.cells #[.int .i64 a, .int .i64 b, .int .i64 c] 26)).alloc (.cells #[.int .i64 d, .int .i64 e, .int .i64 f] 26)).alloc (.cells #[.int .i64 0, .int .i64 0] 37)).alloc (.cells #[.int .i64 0, .int .i64 0] 37)) ⟨w.heap.size + 1 + 1 + 1, 0, none⟩ = false := by simp [go_sem]
  have x1 : World.cell? (((((w.alloc (.cells #[.slice A xs.length C, .int .i64 lo, .int .i64 hi] 24)).alloc (.cells #[.int .i64 a, .int .i64 b, .int .i64 c] 26)).alloc (.cells #[.int .i64 d, .int .i64 e, .int .i64 f] 26)).alloc (.cells #[.int .i64 0, .int .i64 0] 37)).alloc (.cells #[.int .i64 0, .int .i64 0] 37)) ⟨w.heap.size + 1 + 1 + 1, 1, none⟩ = some (.int .i64 0) := by simp [go_sem]
  have fx1 : World.frozen? (((((w.alloc (.cells #[.slice A xs.length C, .int .i64 lo, .int .i64 hi] 24)).alloc (.cells #[.int .i64 a, .int .i64 b, .int .i64 c] 26)).alloc (.cells #[.int .i64 d, .int .i64 e, .int .i64 f] 26)).alloc (.cells #[.int .i64 0, .int .i64 0] 37)).alloc (.cells #[.int .i64 0, .int .i64 0] 37)) ⟨w.heap.size + 1 + 1 + 1, 1, none⟩ = false := by simp [go_sem]
  have lx : w.heap.size + 1 + 1 + 1 < (((((w.alloc (.cells #[.slice A xs.length C, .int .i64 lo, .int .i64 hi] 24)).alloc (.cells #[.int .i64 a, .int .i64 b, .int .i64 c] 26)).alloc (.cells #[.int .i64 d, .int .i64 e, .int .i64 f] 26)).alloc (.cells #[.int .i64 0, .int .i64 0] 37)).alloc (.cells #[.int .i64 0, .int .i64 0] 37)).heap.size := by simp <;> omega
  have y0 : World.cell? (((((w.alloc (.cells #[.slice A xs.length C, .int .i64 lo, .int .i64 hi] 24)).alloc (.cells #[.int .i64 a, .int .i64 b, .int .i64 c] 26)).alloc (.cells #[.int .i64 d, .int .i64 e, .int .i64 f] 26)).alloc (.cells #[.int .i64 0, .int .i64 0] 37)).alloc (.cells #[.int .i64 0, .int .i64 0] 37)) ⟨w.heap.size + 1 + 1 + 1 + 1, 0, none⟩ = some (.int .i64 0) := by simp [go_sem]
  have fy0 : World.frozen? (((((w.alloc (.cells #[.slice A xs.length C, .int .i64 lo, .int .i64 hi] 24)).alloc (.cells #[.int .i64 a, .int .i64 b, .int .i64 c] 26)).alloc (.cells #[.int .i64 d, .int .i64 e, .int .i64 f] 26)).alloc (.cells #[.int .i64 0, .int .i64 0] 37)).alloc (.cells #[.int .i64 0, .int .i64 0] 37)) ⟨w.heap.size + 1 + 1 + 1 + 1, 0, none⟩ = false := by simp [go_sem]
  have y1 : World.cell? (((((w.alloc (.cells #[.slice A xs.length C, .int .i64 lo, .int .i64 hi] 24)).alloc (.cells #[.int .i64 a, .int .i64 b, .int .i64 c] 26)).alloc (.cells #[.int .i64 d, .int .i64 e, .int .i64 f] 26)).alloc (.cells #[.int .i64 0, .int .i64 0] 37)).alloc (.cells #[.int .i64 0, .int .i64 0] 37)) ⟨w.heap.size + 1 + 1 + 1 + 1, 1, none⟩ = some (.int .i64 0) := by simp [go_sem]
  have fy1 : World.frozen? (((((w.alloc (.cells #[.slice A xs.length C, .int .i64 lo, .int .i64 hi] 24)).alloc (.cells #[.int .i64 a, .int .i64 b, .int .i64 c] 26)).alloc (.cells #[.int .i64 d, .int .i64 e, .int .i64 f] 26)).alloc (.cells #[.int .i64 0, .int .i64 0] 37)).alloc (.cells #[.int .i64 0, .int .i64 0] 37)) ⟨w.heap.size + 1 + 1 + 1 + 1, 1, none⟩ = false := by simp [go_sem]
  have ly : w.heap.size + 1 + 1 + 1 + 1 < (((((w.alloc (.cells #[.slice A xs.length C, .int .i64 lo, .int .i64 hi] 24)).alloc (.cells #[.int .i64 a, .int .i64 b, .int .i64 c] 26)).alloc (.cells #[.int .i64 d, .int .i64 e, .int .i64 f] 26)).alloc (.cells #[.int .i64 0, .int .i64 0] 37)).alloc (.cells #[.int .i64 0, .int .i64 0] 37)).heap.size := by simp <;> omega
  have HB := Lib.hid (show Below w.heap.size w (((((w.alloc (.cells #[.slice A xs.length C, .int .i64 lo, .int .i64 hi] 24)).alloc (.cells #[.int .i64 a, .int .i64 b, .int .i64 c] 26)).alloc (.cells #[.int .i64 d, .int .i64 e, .int .i64 f] 26)).alloc (.cells #[.int .i64 0, .int .i64 0] 37)).alloc (.cells #[.int .i64 0, .int .i64 0] 37)) from ((((((Below.refl _ _).alloc (by simp <;> omega) _).alloc (by simp <;> omega) _).alloc (by simp <;> omega) _).alloc (by simp <;> omega) _).alloc (by simp <;> omega) _))
  go_enter Try.func24, Try.ntmps24
  go_upto_region 1 with fail
  generalize ((((w.alloc (.cells #[.slice A xs.length C, .int .i64 lo, .int .i64 hi] 24)).alloc (.cells #[.int .i64 a, .int .i64 b, .int .i64 c] 26)).alloc (.cells #[.int .i64 d, .int .i64 e, .int .i64 f] 26)).alloc (.cells #[.int .i64 0, .int .i64 0] 37)).alloc (.cells #[.int .i64 0, .int .i64 0] 37) = w1 at *
  replace HL := Lib.hid (HL.out.below HB.out)
  go_wp2_with fail
  have z0 : World.cell? (w1.alloc (.cells #[.int .i64 0, .int .i64 1] 37)) ⟨w1.heap.size, 0, none⟩ = some (.int .i64 0) := by simp [go_sem]
  have z1 : World.cell? (w1.alloc (.cells #[.int .i64 0, .int .i64 1] 37)) ⟨w1.heap.size, 1, none⟩ = some (.int .i64 1) := by simp [go_sem]
  have lz : w1.heap.size < (w1.alloc (.cells #[.int .i64 0, .int .i64 1] 37)).heap.size := by simp
  have hb : Below w1.heap.size w1 (w1.alloc (.cells #[.int .i64 0, .int .i64 1] 37)) := below_new _ _
  generalize w1.alloc (.cells #[.int .i64 0, .int .i64 1] 37) = w2 at *
  replace HB := Lib.hid (on_below HB.out hb)
  replace HL := Lib.hid (HL.out.below hb)
  replace p0 := keepc hb p0
  replace p1 := keepc hb p1
  replace p2 := keepc hb p2
  replace q0 := keepc hb q0
  replace q1 := keepc hb q1
  replace q2 := keepc hb q2
  replace s0 := keepc hb s0
  replace s1 := keepc hb s1
  replace s2 := keepc hb s2
  replace x0 := keepc hb x0
  replace x1 := keepc hb x1
  replace y0 := keepc hb y0
  replace y1 := keepc hb y1
  replace fx0 := keepf hb lx fx0
  replace fx1 := keepf hb lx fx1
  replace fy0 := keepf hb ly fy0
  replace fy1 := keepf hb ly fy1
  replace lp := Nat.lt_of_lt_of_le lp hb.size
  replace lq := Nat.lt_of_lt_of_le lq hb.size
  replace ls := Nat.lt_of_lt_of_le ls hb.size
  replace lx := Nat.lt_of_lt_of_le lx hb.size
  replace ly := Nat.lt_of_lt_of_le ly hb.size
  clear hb
  generalize w1.heap.size = gz at *
  go_wp2_with fail
  with_reducible refine (CA.out _ HL.out).mono ?_
  rintro e_ w3 ⟨rfl, hb⟩
  replace HB := Lib.hid (on_below HB.out hb)
  replace HL := Lib.hid (HL.out.below hb)
  replace p0 := keepc hb p0
  replace p1 := keepc hb p1
  replace p2 := keepc hb p2
  replace q0 := keepc hb q0
  replace q1 := keepc hb q1
  replace q2 := keepc hb q2
  replace s0 := keepc hb s0
  replace s1 := keepc hb s1
  replace s2 := keepc hb s2
  replace x0 := keepc hb x0
  replace x1 := keepc hb x1
  replace y0 := keepc hb y0
  replace y1 := keepc hb y1
  replace z0 := keepc hb z0
  replace z1 := keepc hb z1
  replace fx0 := keepf hb lx fx0
  replace fx1 := keepf hb lx fx1
  replace fy0 := keepf hb ly fy0
  replace fy1 := keepf hb ly fy1
  replace lp := Nat.lt_of_lt_of_le lp hb.size
  replace lq := Nat.lt_of_lt_of_le lq hb.size
  replace ls := Nat.lt_of_lt_of_le ls hb.size
  replace lx := Nat.lt_of_lt_of_le lx hb.size
  replace ly := Nat.lt_of_lt_of_le ly hb.size
  replace lz := Nat.lt_of_lt_of_le lz hb.size
  clear hb
  go_wp2_with fail
  with_reducible refine (CB.out _).mono ?_
  rintro e_ w4 ⟨rfl, hb⟩
  replace HB := Lib.hid (on_below HB.out hb)
  replace HL := Lib.hid (HL.out.below hb)
  replace p0 := keepc hb p0
  replace p1 := keepc hb p1
  replace p2 := keepc hb p2
  replace q0 := keepc hb q0
  replace q1 := keepc hb q1
  replace q2 := keepc hb q2
  replace s0 := keepc hb s0
  replace s1 := keepc hb s1
  replace s2 := keepc hb s2
  replace x0 := keepc hb x0
  replace x1 := keepc hb x1
  replace y0 := keepc hb y0
  replace y1 := keepc hb y1
  replace z0 := keepc hb z0
  replace z1 := keepc hb z1
  replace fx0 := keepf hb lx fx0
  replace fx1 := keepf hb lx fx1
  replace fy0 := keepf hb ly fy0
  replace fy1 := keepf hb ly fy1
  replace lp := Nat.lt_of_lt_of_le lp hb.size
  replace lq := Nat.lt_of_lt_of_le lq hb.size
  replace ls := Nat.lt_of_lt_of_le ls hb.size
  replace lx := Nat.lt_of_lt_of_le lx hb.size
  replace ly := Nat.lt_of_lt_of_le ly hb.size
  replace lz := Nat.lt_of_lt_of_le lz hb.size
  clear hb
  go_wp2_with fail
  with_reducible refine (CC.out _).mono ?_
  rintro e_ w5 ⟨rfl, hb⟩
  replace HB := Lib.hid (on_below HB.out hb)
  replace HL := Lib.hid (HL.out.below hb)
  replace p0 := keepc hb p0
  replace p1 := keepc hb p1
  replace p2 := keepc hb p2
  replace q0 := keepc hb q0
  replace q1 := keepc hb q1
  replace q2 := keepc hb q2
  replace s0 := keepc hb s0
  replace s1 := keepc hb s1
  replace s2 := keepc hb s2
  replace x0 := keepc hb x0
  replace x1 := keepc hb x1
  replace y0 := keepc hb y0
  replace y1 := keepc hb y1
  replace z0 := keepc hb z0
  replace z1 := keepc hb z1
  replace fx0 := keepf hb lx fx0
  replace fx1 := keepf hb lx fx1
  replace fy0 := keepf hb ly fy0
  replace fy1 := keepf hb ly fy1
  replace lp := Nat.lt_of_lt_of_le lp hb.size
  replace lq := Nat.lt_of_lt_of_le lq hb.size
  replace ls := Nat.lt_of_lt_of_le ls hb.size
  replace lx := Nat.lt_of_lt_of_le lx hb.size
  replace ly := Nat.lt_of_lt_of_le ly hb.size
  replace lz := Nat.lt_of_lt_of_le lz hb.size
  clear hb
  go_wp2_with fail
  refine bodyPost_ret (v := .tuple #[.agg #[.int .i64 0, .int .i64 0], .agg #[.int .i64 0, .int .i64 0], .bool false, .int .i64 1]) (by simp [results, Try.results24, go_sem, x0, x1, y0, y1]) rfl ⟨rfl, ?_⟩
  repeat (first | (with_reducible exact HB.out) | (refine Below.setCell ?_ (by first | exact Nat.le_refl _ | (simp; done) | (simp; omega) | omega) _) | (refine Below.alloc ?_ (by first | exact Nat.le_refl _ | (simp; done) | (simp; omega) | omega) _) | (refine Below.drew ?_) | (refine below_drewN' ?_ _))
set_option maxRecDepth 100000 in
set_option maxHeartbeats 8000000 in
theorem qclip_5 (A : Option Addr) (C : Nat) (xs : List (Int × Int)) (lo hi a b c d e f : Int) (hlx : xs.length ≤ 9223372036854775807) (hra : true = true ↔ Bok xs lo hi) (hrb : vv a b c = true) (hrc : vv d e f = true) (hq : ¬ (a = d ∧ b = e ∧ c = f)) (R : Cln) (hR : clres (clp r0 (cnd xs lo hi a b c d e f)) = R) (w : World) (hl : SlS w A xs) :
    Calls Try.prog 24 #[.agg #[.slice A xs.length C, .int .i64 lo, .int .i64 hi], .agg #[.int .i64 a, .int .i64 b, .int .i64 c], .agg #[.int .i64 d, .int .i64 e, .int .i64 f]] w fun e_ w' => e_ = .returned (.tuple #[.agg #[.int .i64 R.a, .int .i64 R.b], .agg #[.int .i64 R.c, .int .i64 R.d], .bool R.h, .int .i64 0]) ∧ Below w.heap.size w w' := by
  have he : ∀ W, (binOp .eql 26 (.agg #[.int .i64 a, .int .i64 b, .int .i64 c]) (.agg #[.int .i64 d, .int .i64 e, .int .i64 f])).run Try.prog W = .ok (.bool false) W := fun W => vec_eq (r := false) (decide_eq_false hq) W
  clear hq
  have ba := Lib.hid (hra.1 rfl)
  have va := Lib.hid (vv_iff.1 hrb)
  have vd := Lib.hid (vv_iff.1 hrc)
  have HR := Lib.hid hR
  clear hR
  have CA := Lib.hid (fun W (h : SlS W A xs) => qvalid_is A C xs lo hi hlx true hra W h)
  have CB := Lib.hid (fun W => qpoint_is a b c true hrb W)
  have CC := Lib.hid (fun W => qpoint_is d e f true hrc W)
  clear hra hrb hrc
  have HL := Lib.hid hl
  clear hl
  have HL0 := Lib.hid HL.out
  obtain ⟨_, hsz, k0, k1, k2, k3, k4⟩ := allocs5 w (.cells #[.slice A xs.length C, .int .i64 lo, .int .i64 hi] 24) (.cells #[.int .i64 a, .int .i64 b, .int .i64 c] 26) (.cells #[.int .i64 d, .int .i64 e, .int .i64 f] 26) (.cells #[.int .i64 0, .int .i64 0] 37) (.cells #[.int .i64 0, .int .i64 0] 37) rfl
  have HK := Lib.hid (show Rc5 w.heap.size A C xs lo hi a b c d e f (((((w.alloc (.cells #[.slice A xs.length C, .int .i64 lo, .int .i64 hi] 24)).alloc (.cells #[.int .i64 a, .int .i64 b, .int .i64 c] 26)).alloc (.cells #[.int .i64 d, .int .i64 e, .int .i64 f] 26)).alloc (.cells #[.int .i64 0, .int .i64 0] 37)).alloc (.cells #[.int .i64 0, .int .i64 0] 37)) from ⟨k0, k1, k2, k3, k4⟩)
  have HSZ := Lib.hid hsz
  clear hsz k0 k1 k2 k3 k4
  have p0 : World.cell? (((((w.alloc (.cells #[.slice A xs.length C, .int .i64 lo, .int .i64 hi] 24)).alloc (.cells #[.int .i64 a, .int .i64 b, .int .i64 c] 26)).alloc (.cells #[.int .i64 d, .int .i64 e, .int .i64 f] 26)).alloc (.cells #[.int .i64 0, .int .i64 0] 37)).alloc (.cells #[.int .i64 0, .int .i64 0] 37)) ⟨w.heap.size, 0, none⟩ = some (.slice A xs.length C) := by simp [go_sem]
  have p1 : World.cell? (((((w.alloc (.cells #[.slice A xs.length C, .int .i64 lo, .int .i64 hi] 24)).alloc (.cells #[.int .i64 a, .int .i64 b, .int .i64 c] 26)).alloc (.cells #[.int .i64 d, .int .i64 e, .int .i64 f] 26)).alloc (.cells #[.int .i64 0, .int .i64 0] 37)).alloc (.cells #[.int .i64 0, .int .i64 0] 37)) ⟨w.heap.size, 1, none⟩ = some (.int .i64 lo) := by simp [go_sem]
  have p2 : World.cell? (((((w.alloc (.cells #[.slice A xs.length C, .int .i64 lo, .int .i64 hi] 24)).alloc (.cells #[.int .i64 a, .int .i64 b, .int .i64 c] 26)).alloc (.cells #[.int .i64 d, .int .i64 e, .int .i64 f] 26)).alloc (.cells #[.int .i64 0, .int .i64 0] 37)).alloc (.cells #[.int .i64 0, .int .i64 0] 37)) ⟨w.heap.size, 2, none⟩ = some (.int .i64 hi) := by simp [go_sem]
  have lp : w.heap.size < (((((w.alloc (.cells #[.slice A xs.length C, .int .i64 lo, .int .i64 hi] 24)).alloc (.cells #[.int .i64 a, .int .i64 b, .int .i64 c] 26)).alloc (.cells #[.int .i64 d, .int .i64 e, .int .i64 f] 26)).alloc (.cells #[.int .i64 0, .int .i64 0] 37)).alloc (.cells #[.int .i64 0, .int .i64 0] 37)).heap.size := by simp <;> omega
  have q0 : World.cell? (((((w.alloc (.cells #[.slice A xs.length C, .int .i64 lo, .int .i64 hi] 24)).alloc (.cells #[.int .i64 a, .int .i64 b, .int .i64 c] 26)).alloc (.cells #[.int .i64 d, .int .i64 e, .int .i64 f] 26)).alloc (.cells #[.int .i64 0, .int .i64 0] 37)).alloc (.cells #[.int .i64 0, .int .i64 0] 37)) ⟨w.heap.size + 1, 0, none⟩ = some (.int .i64 a) := by simp [go_sem]
  have q1 : World.cell? (((((w.alloc (.cells #[.slice A xs.length C, .int .i64 lo, .int .i64 hi] 24)).alloc (.cells #[.int .i64 a, .int .i64 b, .int .i64 c] 26)).alloc (.cells #[.int .i64 d, .int .i64 e, .int .i64 f] 26)).alloc (.cells #[.int .i64 0, .int .i64 0] 37)).alloc (.cells #[.int .i64 0, .int .i64 0] 37)) ⟨w.heap.size + 1, 1, none⟩ = some (.int .i64 b) := by simp [go_sem]
  have q2 : World.cell? (((((w.alloc (.cells #[.slice A xs.length C, .int .i64 lo, .int .i64 hi] 24)).alloc (.cells #[.int .i64 a, .int .i64 b, .int .i64 c] 26)).alloc (.cells #[.int .i64 d, .int .i64 e, .int .i64 f] 26)).alloc (.cells #[.int .i64 0, .int .i64 0] 37)).alloc (.cells #[.int .i64 0, .int .i64 0] 37)) ⟨w.heap.size + 1, 2, none⟩ = some (.int .i64 c) := by simp [go_sem]
  have lq : w.heap.size + 1 < (((((w.alloc (.cells #[.slice A xs.length C, .int .i64 lo, .int .i64 hi] 24)).alloc (.cells #[.int .i64 a, .int .i64 b, .int .i64 c] 26)).alloc (.cells #[.int .i64 d, .int .i64 e, .int .i64 f] 26)).alloc (.cells #[.int .i64 0, .int .i64 0] 37)).alloc (.cells #[.int .i64 0, .int .i64 0] 37)).heap.size := by simp <;> omega
  have s0 : World.cell? (((((w.alloc (.cells #[.slice A xs.length C, .int .i64 lo, .int .i64 hi] 24)).alloc (.cells #[.int .i64 a, .int .i64 b, .int .i64 c] 26)).alloc (.cells #[.int .i64 d, .int .i64 e, .int .i64 f] 26)).alloc (.cells #[.int .i64 0, .int .i64 0] 37)).alloc (.cells #[.int .i64 0, .int .i64 0] 37)) ⟨w.heap.size + 1 + 1, 0, none⟩ = some (.int .i64 d) := by simp [go_sem]
  have s1 : World.cell? (((((w.alloc (.cells #[.slice A xs.length C, .int .i64 lo, .int .i64 hi] 24)).alloc (.cells #[.int .i64 a, .int .i64 b, .int .i64 c] 26)).alloc (.cells #[.int .i64 d, .int .i64 e, .int .i64 f] 26)).alloc (.cells #[.int .i64 0, .int .i64 0] 37)).alloc (.cells #[.int .i64 0, .int .i64 0] 37)) ⟨w.heap.size + 1 + 1, 1, none⟩ = some (.int .i64 e) := by simp [go_sem]
  have s2 : World.cell? (((((w.alloc (.cells #[.slice A xs.length C, .int .i64 lo, .int .i64 hi] 24)).alloc (.cells #[.int .i64 a, .int .i64 b, .int .i64 c] 26)).alloc (.cells #[.int .i64 d, .int .i64 e, .int .i64 f] 26)).alloc (.cells #[.int .i64 0, .int .i64 0] 37)).alloc (.cells #[.int .i64 0, .int .i64 0] 37)) ⟨w.heap.size + 1 + 1, 2, none⟩ = some (.int .i64 f) := by simp [go_sem]
  have ls : w.heap.size + 1 + 1 < (((((w.alloc (.cells #[.slice A xs.length C, .int .i64 lo, .int .i64 hi] 24)).alloc (.cells #[.int .i64 a, .int .i64 b, .int .i64 c] 26)).alloc (.cells #[.int .i64 d, .int .i64 e, .int .i64 f] 26)).alloc (.cells #[.int .i64 0, .int .i64 0] 37)).alloc (.cells #[.int .i64 0, .int .i64 0] 37)).heap.size := by simp <;> omega
  have x0 : World.cell? (((((w.alloc (.cells #[.slice A xs.length C, .int .i64 lo, .int .i64 hi] 24)).alloc (.cells #[.int .i64 a, .int .i64 b, .int .i64 c] 26)).alloc (.cells #[.int .i64 d, .int .i64 e, .int .i64 f] 26)).alloc (.cells #[.int .i64 0, .int .i64 0] 37)).alloc (.cells #[.int .i64 0, .int .i64 0] 37)) ⟨w.heap.size + 1 + 1 + 1, 0, none⟩ = some (.int .i64 0) := by simp [go_sem]
  have fx0 : World.frozen? (((((w.alloc (.cells #[.slice A xs.length C, .int .i64 lo, .int .i64 hi] 24)).alloc (.cells #[.int .i64 a, .int .i64 b, .int .i64 c] 26)).alloc (.cells #[.int .i64 d, .int .i64 e, .int .i64 f] 26)).alloc (.cells #[.int .i64 0, .int .i64 0] 37)).alloc (.cells #[.int .i64 0, .int .i64 0] 37)) ⟨w.heap.size + 1 + 1 + 1, 0, none⟩ = false := by simp [go_sem]
  have x1 : World.cell? (((((w.alloc (.cells #[.slice A xs.length C, .int .i64 lo, .int .i64 hi] 24)).alloc (.cells #[.int .i64 a, .int .i64 b, .int .i64 c] 26)).alloc (.cells #[.int .i64 d, .int .i64 e, .int .i64 f] 26)).alloc (.cells #[.int .i64 0, .int .i64 0] 37)).alloc (.cells #[.int .i64 0, .int .i64 0] 37)) ⟨w.heap.size + 1 + 1 + 1, 1, none⟩ = some (.int .i64 0) := by simp [go_sem]
  have fx1 : World.frozen? (((((w.alloc (.cells #[.slice A xs.length C, .int .i64 lo, .int .i64 hi] 24)).alloc (.cells #[.int .i64 a, .int .i64 b, .int .i64 c] 26)).alloc (.cells #[.int .i64 d, .int .i64 e, .int .i64 f] 26)).alloc (.cells #[.int .i64 0, .int .i64 0] 37)).alloc (.cells #[.int .i64 0, .int .i64 0] 37)) ⟨w.heap.size + 1 + 1 + 1, 1, none⟩ = false := by simp [go_sem]
  have lx : w.heap.size + 1 + 1 + 1 < (((((w.alloc (.cells #[.slice A xs.length C, .int .i64 lo, .int .i64 hi] 24)).alloc (.cells #[.int .i64 a, .int .i64 b, .int .i64 c] 26)).alloc (.cells #[.int .i64 d, .int .i64 e, .int .i64 f] 26)).alloc (.cells #[.int .i64 0, .int .i64 0] 37)).alloc (.cells #[.int .i64 0, .int .i64 0] 37)).heap.size := by simp <;> omega
  have y0 : World.cell? (((((w.alloc (.cells #[.slice A xs.length C, .int .i64 lo, .int .i64 hi] 24)).alloc (.cells #[.int .i64 a, .int .i64 b, .int .i64 c] 26)).alloc (.cells #[.int .i64 d, .int .i64 e, .int .i64 f] 26)).alloc (.cells #[.int .i64 0, .int .i64 0] 37)).alloc (.cells #[.int .i64 0, .int .i64 0] 37)) ⟨w.heap.size + 1 + 1 + 1 + 1, 0, none⟩ = some (.int .i64 0) := by simp [go_sem]
  have fy0 : World.frozen? (((((w.alloc (.cells #[.slice A xs.length C, .int .i64 lo, .int .i64 hi] 24)).alloc (.cells #[.int .i64 a, .int .i64 b, .int .i64 c] 26)).alloc (.cells #[.int .i64 d, .int .i64 e, .int .i64 f] 26)).alloc (.cells #[.int .i64 0, .int .i64 0] 37)).alloc (.cells #[.int .i64 0, .int .i64 0] 37)) ⟨w.heap.size + 1 + 1 + 1 + 1, 0, none⟩ = false := by simp [go_sem]
  have y1 : World.cell? (((((w.alloc (.cells #[.slice A xs.length C, .int .i64 lo, .int .i64 hi] 24)).alloc (.cells #[.int .i64 a, .int .i64 b, .int .i64 c] 26)).alloc (.cells #[.int .i64 d, .int .i64 e, .int .i64 f] 26)).alloc (.cells #[.int .i64 0, .int .i64 0] 37)).alloc (.cells #[.int .i64 0, .int .i64 0] 37)) ⟨w.heap.size + 1 + 1 + 1 + 1, 1, none⟩ = some (.int .i64 0) := by simp [go_sem]
  have fy1 : World.frozen? (((((w.alloc (.cells #[.slice A xs.length C, .int .i64 lo, .int .i64 hi] 24)).alloc (.cells #[.int .i64 a, .int .i64 b, .int .i64 c] 26)).alloc (.cells #[.int .i64 d, .int .i64 e, .int .i64 f] 26)).alloc (.cells #[.int .i64 0, .int .i64 0] 37)).alloc (.cells #[.int .i64 0, .int .i64 0] 37)) ⟨w.heap.size + 1 + 1 + 1 + 1, 1, none⟩ = false := by simp [go_sem]
  have ly : w.heap.size + 1 + 1 + 1 + 1 < (((((w.alloc (.cells #[.slice A xs.length C, .int .i64 lo, .int .i64 hi] 24)).alloc (.cells #[.int .i64 a, .int .i64 b, .int .i64 c] 26)).alloc (.cells #[.int .i64 d, .int .i64 e, .int .i64 f] 26)).alloc (.cells #[.int .i64 0, .int .i64 0] 37)).alloc (.cells #[.int .i64 0, .int .i64 0] 37)).heap.size := by simp <;> omega
  have HB := Lib.hid (show Below w.heap.size w (((((w.alloc (.cells #[.slice A xs.length C, .int .i64 lo, .int .i64 hi] 24)).alloc (.cells #[.int .i64 a, .int .i64 b, .int .i64 c] 26)).alloc (.cells #[.int .i64 d, .int .i64 e, .int .i64 f] 26)).alloc (.cells #[.int .i64 0, .int .i64 0] 37)).alloc (.cells #[.int .i64 0, .int .i64 0] 37)) from ((((((Below.refl _ _).alloc (by simp <;> omega) _).alloc (by simp <;> omega) _).alloc (by simp <;> omega) _).alloc (by simp <;> omega) _).alloc (by simp <;> omega) _))
  go_enter Try.func24, Try.ntmps24
  go_upto_region 1 with fail
  generalize ((((w.alloc (.cells #[.slice A xs.length C, .int .i64 lo, .int .i64 hi] 24)).alloc (.cells #[.int .i64 a, .int .i64 b, .int .i64 c] 26)).alloc (.cells #[.int .i64 d, .int .i64 e, .int .i64 f] 26)).alloc (.cells #[.int .i64 0, .int .i64 0] 37)).alloc (.cells #[.int .i64 0, .int .i64 0] 37) = w1 at *
  replace HL := Lib.hid (HL.out.below HB.out)
  go_wp2_with fail
  have KZ := Lib.hid (show Lr (w1.alloc (.cells #[.int .i64 0, .int .i64 1] 37)) w1.heap.size 0 1 from World.alloc_heap_new _ _)
  have z0 : World.cell? (w1.alloc (.cells #[.int .i64 0, .int .i64 1] 37)) ⟨w1.heap.size, 0, none⟩ = some (.int .i64 0) := by simp [go_sem]
  have z1 : World.cell? (w1.alloc (.cells #[.int .i64 0, .int .i64 1] 37)) ⟨w1.heap.size, 1, none⟩ = some (.int .i64 1) := by simp [go_sem]
  have lz : w1.heap.size < (w1.alloc (.cells #[.int .i64 0, .int .i64 1] 37)).heap.size := by simp
  have hb : Below w1.heap.size w1 (w1.alloc (.cells #[.int .i64 0, .int .i64 1] 37)) := below_new _ _
  generalize w1.alloc (.cells #[.int .i64 0, .int .i64 1] 37) = w2 at *
  replace HB := Lib.hid (on_below HB.out hb)
  replace HK := Lib.hid (HK.out.on hb)
  replace HL := Lib.hid (HL.out.below hb)
  replace p0 := keepc hb p0
  replace p1 := keepc hb p1
  replace p2 := keepc hb p2
  replace q0 := keepc hb q0
  replace q1 := keepc hb q1
  replace q2 := keepc hb q2
  replace s0 := keepc hb s0
  replace s1 := keepc hb s1
  replace s2 := keepc hb s2
  replace x0 := keepc hb x0
  replace x1 := keepc hb x1
  replace y0 := keepc hb y0
  replace y1 := keepc hb y1
  replace fx0 := keepf hb lx fx0
  replace fx1 := keepf hb lx fx1
  replace fy0 := keepf hb ly fy0
  replace fy1 := keepf hb ly fy1
  replace lp := Nat.lt_of_lt_of_le lp hb.size
  replace lq := Nat.lt_of_lt_of_le lq hb.size
  replace ls := Nat.lt_of_lt_of_le ls hb.size
  replace lx := Nat.lt_of_lt_of_le lx hb.size
  replace ly := Nat.lt_of_lt_of_le ly hb.size
  clear hb
  generalize w1.heap.size = gz at *
  go_wp2_with fail
  with_reducible refine (CA.out _ HL.out).mono ?_
  rintro e_ w3 ⟨rfl, hb⟩
  replace HB := Lib.hid (on_below HB.out hb)
  replace HK := Lib.hid (HK.out.on hb)
  replace HL := Lib.hid (HL.out.below hb)
  replace KZ := Lib.hid (KZ.out.on hb)
  replace p0 := keepc hb p0
  replace p1 := keepc hb p1
  replace p2 := keepc hb p2
  replace q0 := keepc hb q0
  replace q1 := keepc hb q1
  replace q2 := keepc hb q2
  replace s0 := keepc hb s0
  replace s1 := keepc hb s1
  replace s2 := keepc hb s2
  replace x0 := keepc hb x0
  replace x1 := keepc hb x1
  replace y0 := keepc hb y0
  replace y1 := keepc hb y1
  replace z0 := keepc hb z0
  replace z1 := keepc hb z1
  replace fx0 := keepf hb lx fx0
  replace fx1 := keepf hb lx fx1
  replace fy0 := keepf hb ly fy0
  replace fy1 := keepf hb ly fy1
  replace lp := Nat.lt_of_lt_of_le lp hb.size
  replace lq := Nat.lt_of_lt_of_le lq hb.size
  replace ls := Nat.lt_of_lt_of_le ls hb.size
  replace lx := Nat.lt_of_lt_of_le lx hb.size
  replace ly := Nat.lt_of_lt_of_le ly hb.size
  replace lz := Nat.lt_of_lt_of_le lz hb.size
  clear hb
  go_wp2_with fail
  with_reducible refine (CB.out _).mono ?_
  rintro e_ w4 ⟨rfl, hb⟩
  replace HB := Lib.hid (on_below HB.out hb)
  replace HK := Lib.hid (HK.out.on hb)
  replace HL := Lib.hid (HL.out.below hb)
  replace KZ := Lib.hid (KZ.out.on hb)
  replace p0 := keepc hb p0
  replace p1 := keepc hb p1
  replace p2 := keepc hb p2
  replace q0 := keepc hb q0
  replace q1 := keepc hb q1
  replace q2 := keepc hb q2
  replace s0 := keepc hb s0
  replace s1 := keepc hb s1
  replace s2 := keepc hb s2
  replace x0 := keepc hb x0
  replace x1 := keepc hb x1
  replace y0 := keepc hb y0
  replace y1 := keepc hb y1
  replace z0 := keepc hb z0
  replace z1 := keepc hb z1
  replace fx0 := keepf hb lx fx0
  replace fx1 := keepf hb lx fx1
  replace fy0 := keepf hb ly fy0
  replace fy1 := keepf hb ly fy1
  replace lp := Nat.lt_of_lt_of_le lp hb.size
  replace lq := Nat.lt_of_lt_of_le lq hb.size
  replace ls := Nat.lt_of_lt_of_le ls hb.size
  replace lx := Nat.lt_of_lt_of_le lx hb.size
  replace ly := Nat.lt_of_lt_of_le ly hb.size
  replace lz := Nat.lt_of_lt_of_le lz hb.size
  clear hb
  go_wp2_with fail
  with_reducible refine (CC.out _).mono ?_
  rintro e_ w5 ⟨rfl, hb⟩
  replace HB := Lib.hid (on_below HB.out hb)
  replace HK := Lib.hid (HK.out.on hb)
  replace HL := Lib.hid (HL.out.below hb)
  replace KZ := Lib.hid (KZ.out.on hb)
  replace p0 := keepc hb p0
  replace p1 := keepc hb p1
  replace p2 := keepc hb p2
  replace q0 := keepc hb q0
  replace q1 := keepc hb q1
  replace q2 := keepc hb q2
  replace s0 := keepc hb s0
  replace s1 := keepc hb s1
  replace s2 := keepc hb s2
  replace x0 := keepc hb x0
  replace x1 := keepc hb x1
  replace y0 := keepc hb y0
  replace y1 := keepc hb y1
  replace z0 := keepc hb z0
  replace z1 := keepc hb z1
  replace fx0 := keepf hb lx fx0
  replace fx1 := keepf hb lx fx1
  replace fy0 := keepf hb ly fy0
  replace fy1 := keepf hb ly fy1
  replace lp := Nat.lt_of_lt_of_le lp hb.size
  replace lq := Nat.lt_of_lt_of_le lq hb.size
  replace ls := Nat.lt_of_lt_of_le ls hb.size
  replace lx := Nat.lt_of_lt_of_le lx hb.size
  replace ly := Nat.lt_of_lt_of_le ly hb.size
  replace lz := Nat.lt_of_lt_of_le lz hb.size
  clear hb
  go_wp2_with fail
  have KR := Lib.hid (show Gr (w5.alloc (.cells #[.int .i64 0, .int .i64 1, .int .i64 1, .int .i64 1, .bool false] 91)) w5.heap.size r0 from World.alloc_heap_new _ _)
  have HZR := Lib.hid lz
  have v0 : World.cell? (w5.alloc (.cells #[.int .i64 0, .int .i64 1, .int .i64 1, .int .i64 1, .bool false] 91)) ⟨w5.heap.size, 0, none⟩ = some (.int .i64 0) := by simp [go_sem]
  have v1 : World.cell? (w5.alloc (.cells #[.int .i64 0, .int .i64 1, .int .i64 1, .int .i64 1, .bool false] 91)) ⟨w5.heap.size, 1, none⟩ = some (.int .i64 1) := by simp [go_sem]
  have v2 : World.cell? (w5.alloc (.cells #[.int .i64 0, .int .i64 1, .int .i64 1, .int .i64 1, .bool false] 91)) ⟨w5.heap.size, 2, none⟩ = some (.int .i64 1) := by simp [go_sem]
  have v3 : World.cell? (w5.alloc (.cells #[.int .i64 0, .int .i64 1, .int .i64 1, .int .i64 1, .bool false] 91)) ⟨w5.heap.size, 3, none⟩ = some (.int .i64 1) := by simp [go_sem]
  have v4 : World.cell? (w5.alloc (.cells #[.int .i64 0, .int .i64 1, .int .i64 1, .int .i64 1, .bool false] 91)) ⟨w5.heap.size, 4, none⟩ = some (.bool false) := by simp [go_sem]
  have lv : w5.heap.size < (w5.alloc (.cells #[.int .i64 0, .int .i64 1, .int .i64 1, .int .i64 1, .bool false] 91)).heap.size := by simp
  have hb : Below w5.heap.size w5 (w5.alloc (.cells #[.int .i64 0, .int .i64 1, .int .i64 1, .int .i64 1, .bool false] 91)) := below_new _ _
  generalize w5.alloc (.cells #[.int .i64 0, .int .i64 1, .int .i64 1, .int .i64 1, .bool false] 91) = w6 at *
  replace HB := Lib.hid (on_below HB.out hb)
  replace HK := Lib.hid (HK.out.on hb)
  replace HL := Lib.hid (HL.out.below hb)
  replace KZ := Lib.hid (KZ.out.on hb)
  replace p0 := keepc hb p0
  replace p1 := keepc hb p1
  replace p2 := keepc hb p2
  replace q0 := keepc hb q0
  replace q1 := keepc hb q1
  replace q2 := keepc hb q2
  replace s0 := keepc hb s0
  replace s1 := keepc hb s1
  replace s2 := keepc hb s2
  replace x0 := keepc hb x0
  replace x1 := keepc hb x1
  replace y0 := keepc hb y0
  replace y1 := keepc hb y1
  replace z0 := keepc hb z0
  replace z1 := keepc hb z1
  replace fx0 := keepf hb lx fx0
  replace fx1 := keepf hb lx fx1
  replace fy0 := keepf hb ly fy0
  replace fy1 := keepf hb ly fy1
  replace lp := Nat.lt_of_lt_of_le lp hb.size
  replace lq := Nat.lt_of_lt_of_le lq hb.size
  replace ls := Nat.lt_of_lt_of_le ls hb.size
  replace lx := Nat.lt_of_lt_of_le lx hb.size
  replace ly := Nat.lt_of_lt_of_le ly hb.size
  replace lz := Nat.lt_of_lt_of_le lz hb.size
  clear hb
  generalize w5.heap.size = gv at *
  have hQ : Cq w.heap.size gz gv A C xs lo hi a b c d e f r0 w w6 := ⟨HK.out, KZ.out, KR.out, HSZ.out, HZR.out, rfl, HB.out⟩
  clear p0 p1 p2 lp q0 q1 q2 lq s0 s1 s2 ls x0 x1 fx0 fx1 lx y0 y1 fy0 fy1 ly z0 z1 lz v0 v1 v2 v3 v4 lv HK KZ
  clear KR HSZ HZR HB HL CA CB CC he
  go_loopw [15] (fun i wr => ∃ k : Nat, k ≤ xs.length ∧ i = .int .i64 k ∧ Hid (Cq w.heap.size gz gv A C xs lo hi a b c d e f (clp r0 ((cnd xs lo hi a b c d e f).take k)) w wr)) (fun i _ => xs.length - (intOf i).toNat)
  case atStart => exact ⟨0, Nat.zero_le _, rfl, Lib.hid hQ⟩
  case round =>
    obtain ⟨k, hk, rfl, HQ⟩ := hrel
    clear hQ
    have n8 := ba.out.n8
    have HE := Lib.hid (HL0.out.below HQ.out.bel)
    obtain ⟨p0, p1, p2⟩ := cells3 HQ.out.k.p
    obtain ⟨q0, q1, q2⟩ := cells3 HQ.out.k.q
    obtain ⟨s0, s1, s2⟩ := cells3 HQ.out.k.s
    by_cases hlt : k < xs.length
    · obtain ⟨b0, ob, rfl, e0, e1⟩ := HE.out k hlt
      have hn := nx_lt hlt
      obtain ⟨f0, f1⟩ := sl_two HE.out hn
      obtain ⟨hst, hs1, hs2⟩ := rr_step ba.out va.out vd.out hlt
      have hok := rr_ok ba.out va.out vd.out k
      generalize hs_ : crs (px xs k) (py xs k) (px xs (nx xs.length k)) (py xs (nx xs.length k)) a b = s at *
      have HC := Lib.hid (fun W => qside_is (gdS xs k).1 (gdS xs k).2 (gdS xs (nx xs.length k)).1 (gdS xs (nx xs.length k)).2 a b s (bok_co ba.out hlt).1 (bok_co ba.out hlt).2 (bok_co ba.out hn).1 (bok_co ba.out hn).2 va.out.x va.out.y hs_ W)
      replace hst : clp r0 ((cnd xs lo hi a b c d e f).take (k + 1)) = nrw (clp r0 ((cnd xs lo hi a b c d e f).take k)) s (((gdS xs (nx xs.length k)).1 - (gdS xs k).1) * (e - b) - ((gdS xs (nx xs.length k)).2 - (gdS xs k).2) * (d - a)) := hst
      replace hs2 : -100000000 ≤ ((gdS xs (nx xs.length k)).1 - (gdS xs k).1) * (e - b) - ((gdS xs (nx xs.length k)).2 - (gdS xs k).2) * (d - a) ∧ ((gdS xs (nx xs.length k)).1 - (gdS xs k).1) * (e - b) - ((gdS xs (nx xs.length k)).2 - (gdS xs k).2) * (d - a) ≤ 100000000 := hs2
      have HN := Lib.hid (fun W => qnar_any _ s _ hok hs1 hs2 W)
      rw [← hst] at HN
      simp only [rgv] at HN
      clear hs1 hst hs_
      have bo1 : co (gdS xs k).1 ∧ co (gdS xs k).2 := bok_co ba.out hlt
      have bo2 : co (gdS xs (nx xs.length k)).1 ∧ co (gdS xs (nx xs.length k)).2 := bok_co ba.out hn
      have bv := va.out
      have bd := vd.out
      have j1 := nx_tmod hlt
      have j2 := nx_emod hlt
      have w1_ : IntKind.i64.wrap ((k : Int) + 1) = (k : Int) + 1 := IntWalk.i64_in _ ⟨by omega, by omega⟩
      have w2_ : wrap64 ((k : Int) + 1) = (k : Int) + 1 := IntWalk.wrap64_in _ ⟨by omega, by omega⟩
      have z3 : ¬ xs = [] := by intro e; rw [e] at hlt; exact absurd hlt (Nat.not_lt_zero _)
      have z4 : ¬ xs.length = 0 := by omega
      have w3_ : IntKind.i64.wrap ((nx xs.length k : Nat) : Int) = (nx xs.length k : Nat) := IntWalk.i64_in _ ⟨by omega, by omega⟩
      generalize nx xs.length k = m at *
      generalize hrr : clp r0 ((cnd xs lo hi a b c d e f).take k) = rr at *
      generalize hrn : clp r0 ((cnd xs lo hi a b c d e f).take (k + 1)) = rn at *
      have HRN := Lib.hid hrn
      clear hrr hrn hok
      generalize (gdS xs k).1 = mx at *
      generalize (gdS xs k).2 = my at *
      generalize (gdS xs m).1 = ux at *
      generalize (gdS xs m).2 = uy at *
      obtain ⟨⟨c1, c2⟩, ⟨c3, c4⟩⟩ := bo1
      obtain ⟨⟨c5, c6⟩, ⟨c7, c8⟩⟩ := bo2
      obtain ⟨⟨c9, c10⟩, ⟨c11, c12⟩, ⟨c13, c14⟩⟩ := bv
      obtain ⟨⟨d1, d2⟩, ⟨d3, d4⟩, ⟨d5, d6⟩⟩ := bd
      have t1 := mul_co (m := 4000) (k := 4000) (a := ux - mx) (b := e - b) ⟨by omega, by omega⟩ ⟨by omega, by omega⟩
      have t2 := mul_co (m := 4000) (k := 4000) (a := uy - my) (b := d - a) ⟨by omega, by omega⟩ ⟨by omega, by omega⟩
      have wf0 : IntKind.i64.wrap (ux - mx) = ux - mx := IntWalk.i64_in _ ⟨by omega, by omega⟩
      have wg0 : wrap64 (ux - mx) = ux - mx := IntWalk.wrap64_in _ ⟨by omega, by omega⟩
      have wf1 : IntKind.i64.wrap (e - b) = e - b := IntWalk.i64_in _ ⟨by omega, by omega⟩
      have wg1 : wrap64 (e - b) = e - b := IntWalk.wrap64_in _ ⟨by omega, by omega⟩
      have wf2 : IntKind.i64.wrap (uy - my) = uy - my := IntWalk.i64_in _ ⟨by omega, by omega⟩
      have wg2 : wrap64 (uy - my) = uy - my := IntWalk.wrap64_in _ ⟨by omega, by omega⟩
      have wf3 : IntKind.i64.wrap (d - a) = d - a := IntWalk.i64_in _ ⟨by omega, by omega⟩
      have wg3 : wrap64 (d - a) = d - a := IntWalk.wrap64_in _ ⟨by omega, by omega⟩
      have wf4 : IntKind.i64.wrap ((ux - mx) * (e - b)) = (ux - mx) * (e - b) := IntWalk.i64_in _ ⟨by omega, by omega⟩
      have wg4 : wrap64 ((ux - mx) * (e - b)) = (ux - mx) * (e - b) := IntWalk.wrap64_in _ ⟨by omega, by omega⟩
      have wf5 : IntKind.i64.wrap ((uy - my) * (d - a)) = (uy - my) * (d - a) := IntWalk.i64_in _ ⟨by omega, by omega⟩
      have wg5 : wrap64 ((uy - my) * (d - a)) = (uy - my) * (d - a) := IntWalk.wrap64_in _ ⟨by omega, by omega⟩
      have wf6 : IntKind.i64.wrap ((ux - mx) * (e - b) - (uy - my) * (d - a)) = (ux - mx) * (e - b) - (uy - my) * (d - a) := IntWalk.i64_in _ ⟨by omega, by omega⟩
      have wg6 : wrap64 ((ux - mx) * (e - b) - (uy - my) * (d - a)) = (ux - mx) * (e - b) - (uy - my) * (d - a) := IntWalk.wrap64_in _ ⟨by omega, by omega⟩
      clear c1 c2 c3 c4 c5 c6 c7 c8 c9 c10 c11 c12 c13 c14 d1 d2 d3 d4 d5 d6 t1 t2 hs2
      have HGR := Lib.hid HQ.out.r.lt
      have HO1 := Lib.hid HQ.out.o1
      have HO2 := Lib.hid HQ.out.o2
      go_wp2_with fail
      have n0 : World.cell? (wr.alloc (.cells #[.int .i64 mx, .int .i64 my] 43)) ⟨wr.heap.size, 0, none⟩ = some (.int .i64 mx) := by simp [go_sem]
      have n1 : World.cell? (wr.alloc (.cells #[.int .i64 mx, .int .i64 my] 43)) ⟨wr.heap.size, 1, none⟩ = some (.int .i64 my) := by simp [go_sem]
      have ln : wr.heap.size < (wr.alloc (.cells #[.int .i64 mx, .int .i64 my] 43)).heap.size := by simp
      have hb : Below wr.heap.size wr (wr.alloc (.cells #[.int .i64 mx, .int .i64 my] 43)) := below_new _ _
      generalize wr.alloc (.cells #[.int .i64 mx, .int .i64 my] 43) = w7 at *
      replace HQ := Lib.hid (HQ.out.on hb)
      replace p0 := keepc hb p0
      replace p1 := keepc hb p1
      replace p2 := keepc hb p2
      replace q0 := keepc hb q0
      replace q1 := keepc hb q1
      replace q2 := keepc hb q2
      replace s0 := keepc hb s0
      replace s1 := keepc hb s1
      replace s2 := keepc hb s2
      replace e0 := keepc hb e0
      replace e1 := keepc hb e1
      replace f0 := keepc hb f0
      replace f1 := keepc hb f1
      clear hb
      generalize wr.heap.size = gn at *
      have HNG := Lib.hid ln
      go_wp2_with fail
      have kp : ∀ {W : World}, Below w7.heap.size w7 W → W.cell? ⟨w.heap.size, 0, none⟩ = some (.slice (some ⟨b0, ob, none⟩) xs.length C) ∧ W.cell? ⟨b0, ob + m * 2, none⟩ = some (.int .i64 ux) ∧ W.cell? ⟨b0, ob + m * 2 + 1, none⟩ = some (.int .i64 uy) := fun h => ⟨keepc h p0, keepc h f0, keepc h f1⟩
      refine wp_region_held_drew (S := fun V => V.cell? ⟨w.heap.size, 0, none⟩ = some (.slice (some ⟨b0, ob, none⟩) xs.length C) ∧ V.cell? ⟨b0, ob + m * 2, none⟩ = some (.int .i64 ux) ∧ V.cell? ⟨b0, ob + m * 2 + 1, none⟩ = some (.int .i64 uy)) (by kernel_rfl) (kp (Below.refl _ _).drew) fun HL_ => ?_
      refine wpAnyH_take (i := 0) (v := .pointer (some ⟨w.heap.size, 0, none⟩)) rfl (by kernel_rfl) (by kernel_rfl) (by kernel_rfl) (fun _ _ _ h => h) (Or.inl ⟨by kernel_rfl, ?_⟩) HL_ ?_
      · rintro Wl ⟨s0, s1, s2⟩
        go_simp
      simp only [Act.put, List.getElem_toArray, List.getElem_cons_succ, List.getElem_cons_zero, List.setIfInBounds_toArray, List.set_cons_zero, List.set_cons_succ]
      refine wpAnyH_take (i := 1) (v := .slice (some ⟨b0, ob, none⟩) xs.length C) rfl (by kernel_rfl) (by kernel_rfl) (by kernel_rfl) (fun _ _ _ h => h) (Or.inl ⟨by kernel_rfl, ?_⟩) HL_ ?_
      · rintro Wl ⟨s0, s1, s2⟩
        go_simp
      simp only [Act.put, List.getElem_toArray, List.getElem_cons_succ, List.getElem_cons_zero, List.setIfInBounds_toArray, List.set_cons_zero, List.set_cons_succ]
      refine wpAnyH_take (i := 2) (v := .int .i64 (k : Int)) rfl (by kernel_rfl) (by kernel_rfl) (by kernel_rfl) (fun _ _ _ h => h) (Or.inl ⟨by kernel_rfl, ?_⟩) HL_ ?_
      · rintro Wl ⟨s0, s1, s2⟩
        go_simp
      simp only [Act.put, List.getElem_toArray, List.getElem_cons_succ, List.getElem_cons_zero, List.setIfInBounds_toArray, List.set_cons_zero, List.set_cons_succ]
      refine wpAnyH_take (i := 3) (v := .int .i64 ((k : Int) + 1)) rfl (by kernel_rfl) (by kernel_rfl) (by kernel_rfl) (fun _ _ _ h => h) (Or.inl ⟨by kernel_rfl, ?_⟩) HL_ ?_
      · rintro Wl ⟨s0, s1, s2⟩
        go_simp
      simp only [Act.put, List.getElem_toArray, List.getElem_cons_succ, List.getElem_cons_zero, List.setIfInBounds_toArray, List.set_cons_zero, List.set_cons_succ]
      refine wpAnyH_take (i := 4) (v := .pointer (some ⟨w.heap.size, 0, none⟩)) rfl (by kernel_rfl) (by kernel_rfl) (by kernel_rfl) (fun _ _ _ h => h) (Or.inl ⟨by kernel_rfl, ?_⟩) HL_ ?_
      · rintro Wl ⟨s0, s1, s2⟩
        go_simp
      simp only [Act.put, List.getElem_toArray, List.getElem_cons_succ, List.getElem_cons_zero, List.setIfInBounds_toArray, List.set_cons_zero, List.set_cons_succ]
      refine wpAnyH_take (i := 5) (v := .slice (some ⟨b0, ob, none⟩) xs.length C) rfl (by kernel_rfl) (by kernel_rfl) (by kernel_rfl) (fun _ _ _ h => h) (Or.inl ⟨by kernel_rfl, ?_⟩) HL_ ?_
      · rintro Wl ⟨s0, s1, s2⟩
        go_simp
      simp only [Act.put, List.getElem_toArray, List.getElem_cons_succ, List.getElem_cons_zero, List.setIfInBounds_toArray, List.set_cons_zero, List.set_cons_succ]
      refine wpAnyH_take (i := 6) (v := .int .i64 (xs.length : Int)) rfl (by kernel_rfl) (by kernel_rfl) (by kernel_rfl) (fun _ _ _ h => h) (Or.inl ⟨by kernel_rfl, ?_⟩) HL_ ?_
      · rintro Wl ⟨s0, s1, s2⟩
        go_simp
      simp only [Act.put, List.getElem_toArray, List.getElem_cons_succ, List.getElem_cons_zero, List.setIfInBounds_toArray, List.set_cons_zero, List.set_cons_succ]
      refine wpAnyH_take (i := 7) (v := .int .i64 (m : Int)) rfl (by kernel_rfl) (by kernel_rfl) (by kernel_rfl) (fun _ _ _ h => h) (Or.inl ⟨by kernel_rfl, ?_⟩) HL_ ?_
      · rintro Wl ⟨s0, s1, s2⟩
        go_simp
      simp only [Act.put, List.getElem_toArray, List.getElem_cons_succ, List.getElem_cons_zero, List.setIfInBounds_toArray, List.set_cons_zero, List.set_cons_succ]
      refine wpAnyH_take (i := 8) (v := .pointer (some ⟨b0, ob + m * 2, none⟩)) rfl (by kernel_rfl) (by kernel_rfl) (by kernel_rfl) (fun _ _ _ h => h) (Or.inl ⟨by kernel_rfl, ?_⟩) HL_ ?_
      · rintro Wl ⟨s0, s1, s2⟩
        go_simp
      simp only [Act.put, List.getElem_toArray, List.getElem_cons_succ, List.getElem_cons_zero, List.setIfInBounds_toArray, List.set_cons_zero, List.set_cons_succ]
      refine wpAnyH_take (i := 9) (v := .agg #[.int .i64 ux, .int .i64 uy]) rfl (by kernel_rfl) (by kernel_rfl) (by kernel_rfl) (fun _ _ _ h => h) (Or.inl ⟨by kernel_rfl, ?_⟩) HL_ ?_
      · rintro Wl ⟨s0, s1, s2⟩
        go_simp
      simp only [Act.put, List.getElem_toArray, List.getElem_cons_succ, List.getElem_cons_zero, List.setIfInBounds_toArray, List.set_cons_zero, List.set_cons_succ]
      refine wpAnyH_ready (rs := [10]) (by kernel_rfl) (by simp) ?_
      refine AllReadyH.cons (o := _) rfl (fun K hK => ?_) AllReadyH.nil
      go_simp
      have hb4 : Below w7.heap.size w7 (w7.alloc (.cells #[.int .i64 0, .int .i64 0] 43)).drew := (below_new w7 (.cells #[.int .i64 0, .int .i64 0] 43)).drew
      have hz : (w7.alloc (.cells #[.int .i64 0, .int .i64 0] 43)).drew.heap[w7.heap.size]? = some (.cells #[.int .i64 0, .int .i64 0] 43 (0, 0)) := World.alloc_heap_new _ _
      refine hK.out _ _ (kp hb4) fun HL_ => ?_
      clear hK K
      generalize (w7.alloc (.cells #[.int .i64 0, .int .i64 0] 43)).drew = w4 at *
      obtain ⟨gm, hgg, hg5⟩ : ∃ g, w7.heap.size = g ∧ w7.heap.size ≤ g := ⟨_, rfl, Nat.le_refl _⟩
      rw [hgg] at hz ⊢
      clear hgg
      obtain ⟨x0, x1⟩ := cells2 hz
      have y0 : w4.frozen? ⟨gm, 0, none⟩ = false := Lrp.fz hz 0
      have y1 : w4.frozen? ⟨gm, 1, none⟩ = false := Lrp.fz hz 1
      have hb5 : Below w7.heap.size w7 ((w4.setCell ⟨gm, 0, none⟩ (.int .i64 ux)).setCell ⟨gm, 1, none⟩ (.int .i64 uy)) := (hb4.setCell hg5 _).setCell hg5 _
      have hz5 : ((w4.setCell ⟨gm, 0, none⟩ (.int .i64 ux)).setCell ⟨gm, 1, none⟩ (.int .i64 uy)).heap[gm]? = some (.cells #[.int .i64 ux, .int .i64 uy] 43 (0, 0)) := set_cells (set_cells hz 0 _) 1 _
      refine wpAnyH_ready (rs := [11]) (by kernel_rfl) (by simp) ?_
      refine AllReadyH.cons (o := _) rfl (fun K hK => ?_) AllReadyH.nil
      go_simp
      refine hK.out _ _ (kp hb5) fun HL_ => ?_
      clear hK K x0 x1 y0 y1 hz hb4
      generalize ((w4.setCell ⟨gm, 0, none⟩ (.int .i64 ux)).setCell ⟨gm, 1, none⟩ (.int .i64 uy)) = w5 at *
      refine wpAnyH_done (by kernel_rfl) ?_ _
      obtain ⟨m0, m1⟩ := cells2 hz5
      have hgm := Lib.hid (Nat.lt_of_lt_of_le HQ.out.r.lt hg5)
      clear HL_ kp hz5 hg5
      have hb := hb5
      clear hb5
      replace HQ := Lib.hid (HQ.out.on hb)
      replace p0 := keepc hb p0
      replace p1 := keepc hb p1
      replace p2 := keepc hb p2
      replace q0 := keepc hb q0
      replace q1 := keepc hb q1
      replace q2 := keepc hb q2
      replace s0 := keepc hb s0
      replace s1 := keepc hb s1
      replace s2 := keepc hb s2
      replace e0 := keepc hb e0
      replace e1 := keepc hb e1
      replace f0 := keepc hb f0
      replace f1 := keepc hb f1
      replace n0 := keepc hb n0
      replace n1 := keepc hb n1
      replace ln := Nat.lt_of_lt_of_le ln hb.size
      clear hb
      go_wp2_with fail
      clear j1 j2 z3 z4 hn
      have kp : ∀ {W : World}, Below w5.heap.size w5 W → W.cell? ⟨gn, 0, none⟩ = some (.int .i64 mx) ∧ W.cell? ⟨gn, 1, none⟩ = some (.int .i64 my) ∧ W.cell? ⟨gm, 0, none⟩ = some (.int .i64 ux) ∧ W.cell? ⟨gm, 1, none⟩ = some (.int .i64 uy) ∧ W.cell? ⟨w.heap.size + 1, 0, none⟩ = some (.int .i64 a) ∧ W.cell? ⟨w.heap.size + 1, 1, none⟩ = some (.int .i64 b) ∧ W.cell? ⟨w.heap.size + 1 + 1, 0, none⟩ = some (.int .i64 d) ∧ W.cell? ⟨w.heap.size + 1 + 1, 1, none⟩ = some (.int .i64 e) := fun h => ⟨keepc h n0, keepc h n1, keepc h m0, keepc h m1, keepc h q0, keepc h q1, keepc h s0, keepc h s1⟩
      refine wp_region_held_drew (S := fun V => V.cell? ⟨gn, 0, none⟩ = some (.int .i64 mx) ∧ V.cell? ⟨gn, 1, none⟩ = some (.int .i64 my) ∧ V.cell? ⟨gm, 0, none⟩ = some (.int .i64 ux) ∧ V.cell? ⟨gm, 1, none⟩ = some (.int .i64 uy) ∧ V.cell? ⟨w.heap.size + 1, 0, none⟩ = some (.int .i64 a) ∧ V.cell? ⟨w.heap.size + 1, 1, none⟩ = some (.int .i64 b) ∧ V.cell? ⟨w.heap.size + 1 + 1, 0, none⟩ = some (.int .i64 d) ∧ V.cell? ⟨w.heap.size + 1 + 1, 1, none⟩ = some (.int .i64 e)) (by kernel_rfl) (kp (Below.refl _ _).drew) fun HL_ => ?_
      refine wpAnyH_take (i := 1) (v := .agg #[.int .i64 mx, .int .i64 my]) rfl (by kernel_rfl) (by kernel_rfl) (by kernel_rfl) (fun _ _ _ h => h) (Or.inl ⟨by kernel_rfl, ?_⟩) HL_ ?_
      · rintro Wl ⟨s0, s1, s2, s3, s4, s5, s6, s7⟩
        go_simp
      simp only [Act.put, List.getElem_toArray, List.getElem_cons_succ, List.getElem_cons_zero, List.setIfInBounds_toArray, List.set_cons_zero, List.set_cons_succ]
      refine wpAnyH_take (i := 2) (v := .agg #[.int .i64 ux, .int .i64 uy]) rfl (by kernel_rfl) (by kernel_rfl) (by kernel_rfl) (fun _ _ _ h => h) (Or.inl ⟨by kernel_rfl, ?_⟩) HL_ ?_
      · rintro Wl ⟨s0, s1, s2, s3, s4, s5, s6, s7⟩
        go_simp
      simp only [Act.put, List.getElem_toArray, List.getElem_cons_succ, List.getElem_cons_zero, List.setIfInBounds_toArray, List.set_cons_zero, List.set_cons_succ]
      refine wpAnyH_take (i := 3) (v := .pointer (some ⟨w.heap.size + 1, 0, none⟩)) rfl (by kernel_rfl) (by kernel_rfl) (by kernel_rfl) (fun _ _ _ h => h) (Or.inl ⟨by kernel_rfl, ?_⟩) HL_ ?_
      · rintro Wl ⟨s0, s1, s2, s3, s4, s5, s6, s7⟩
        go_simp
      simp only [Act.put, List.getElem_toArray, List.getElem_cons_succ, List.getElem_cons_zero, List.setIfInBounds_toArray, List.set_cons_zero, List.set_cons_succ]
      refine wpAnyH_take (i := 4) (v := .int .i64 a) rfl (by kernel_rfl) (by kernel_rfl) (by kernel_rfl) (fun _ _ _ h => h) (Or.inl ⟨by kernel_rfl, ?_⟩) HL_ ?_
      · rintro Wl ⟨s0, s1, s2, s3, s4, s5, s6, s7⟩
        go_simp
      simp only [Act.put, List.getElem_toArray, List.getElem_cons_succ, List.getElem_cons_zero, List.setIfInBounds_toArray, List.set_cons_zero, List.set_cons_succ]
      refine wpAnyH_take (i := 5) (v := .pointer (some ⟨w.heap.size + 1, 1, none⟩)) rfl (by kernel_rfl) (by kernel_rfl) (by kernel_rfl) (fun _ _ _ h => h) (Or.inl ⟨by kernel_rfl, ?_⟩) HL_ ?_
      · rintro Wl ⟨s0, s1, s2, s3, s4, s5, s6, s7⟩
        go_simp
      simp only [Act.put, List.getElem_toArray, List.getElem_cons_succ, List.getElem_cons_zero, List.setIfInBounds_toArray, List.set_cons_zero, List.set_cons_succ]
      refine wpAnyH_take (i := 6) (v := .int .i64 b) rfl (by kernel_rfl) (by kernel_rfl) (by kernel_rfl) (fun _ _ _ h => h) (Or.inl ⟨by kernel_rfl, ?_⟩) HL_ ?_
      · rintro Wl ⟨s0, s1, s2, s3, s4, s5, s6, s7⟩
        go_simp
      simp only [Act.put, List.getElem_toArray, List.getElem_cons_succ, List.getElem_cons_zero, List.setIfInBounds_toArray, List.set_cons_zero, List.set_cons_succ]
      refine wpAnyH_take (i := 7) (v := .agg #[.int .i64 a, .int .i64 b]) rfl (by kernel_rfl) (by kernel_rfl) (by kernel_rfl) (fun _ _ _ h => h) (Or.inl ⟨by kernel_rfl, ?_⟩) HL_ ?_
      · rintro Wl ⟨s0, s1, s2, s3, s4, s5, s6, s7⟩
        go_simp
      simp only [Act.put, List.getElem_toArray, List.getElem_cons_succ, List.getElem_cons_zero, List.setIfInBounds_toArray, List.set_cons_zero, List.set_cons_succ]
      refine wpAnyH_take (i := 9) (v := .pointer (some ⟨gm, 0, none⟩)) rfl (by kernel_rfl) (by kernel_rfl) (by kernel_rfl) (fun _ _ _ h => h) (Or.inl ⟨by kernel_rfl, ?_⟩) HL_ ?_
      · rintro Wl ⟨s0, s1, s2, s3, s4, s5, s6, s7⟩
        go_simp
      simp only [Act.put, List.getElem_toArray, List.getElem_cons_succ, List.getElem_cons_zero, List.setIfInBounds_toArray, List.set_cons_zero, List.set_cons_succ]
      refine wpAnyH_take (i := 10) (v := .int .i64 ux) rfl (by kernel_rfl) (by kernel_rfl) (by kernel_rfl) (fun _ _ _ h => h) (Or.inl ⟨by kernel_rfl, ?_⟩) HL_ ?_
      · rintro Wl ⟨s0, s1, s2, s3, s4, s5, s6, s7⟩
        go_simp
      simp only [Act.put, List.getElem_toArray, List.getElem_cons_succ, List.getElem_cons_zero, List.setIfInBounds_toArray, List.set_cons_zero, List.set_cons_succ]
      refine wpAnyH_take (i := 11) (v := .pointer (some ⟨gn, 0, none⟩)) rfl (by kernel_rfl) (by kernel_rfl) (by kernel_rfl) (fun _ _ _ h => h) (Or.inl ⟨by kernel_rfl, ?_⟩) HL_ ?_
      · rintro Wl ⟨s0, s1, s2, s3, s4, s5, s6, s7⟩
        go_simp
      simp only [Act.put, List.getElem_toArray, List.getElem_cons_succ, List.getElem_cons_zero, List.setIfInBounds_toArray, List.set_cons_zero, List.set_cons_succ]
      refine wpAnyH_take (i := 12) (v := .int .i64 mx) rfl (by kernel_rfl) (by kernel_rfl) (by kernel_rfl) (fun _ _ _ h => h) (Or.inl ⟨by kernel_rfl, ?_⟩) HL_ ?_
      · rintro Wl ⟨s0, s1, s2, s3, s4, s5, s6, s7⟩
        go_simp
      simp only [Act.put, List.getElem_toArray, List.getElem_cons_succ, List.getElem_cons_zero, List.setIfInBounds_toArray, List.set_cons_zero, List.set_cons_succ]
      refine wpAnyH_take (i := 13) (v := .int .i64 (ux - mx)) rfl (by kernel_rfl) (by kernel_rfl) (by kernel_rfl) (fun _ _ _ h => h) (Or.inl ⟨by kernel_rfl, ?_⟩) HL_ ?_
      · rintro Wl ⟨s0, s1, s2, s3, s4, s5, s6, s7⟩
        go_simp
      simp only [Act.put, List.getElem_toArray, List.getElem_cons_succ, List.getElem_cons_zero, List.setIfInBounds_toArray, List.set_cons_zero, List.set_cons_succ]
      refine wpAnyH_take (i := 14) (v := .pointer (some ⟨w.heap.size + 1 + 1, 1, none⟩)) rfl (by kernel_rfl) (by kernel_rfl) (by kernel_rfl) (fun _ _ _ h => h) (Or.inl ⟨by kernel_rfl, ?_⟩) HL_ ?_
      · rintro Wl ⟨s0, s1, s2, s3, s4, s5, s6, s7⟩
        go_simp
      simp only [Act.put, List.getElem_toArray, List.getElem_cons_succ, List.getElem_cons_zero, List.setIfInBounds_toArray, List.set_cons_zero, List.set_cons_succ]
      refine wpAnyH_take (i := 15) (v := .int .i64 e) rfl (by kernel_rfl) (by kernel_rfl) (by kernel_rfl) (fun _ _ _ h => h) (Or.inl ⟨by kernel_rfl, ?_⟩) HL_ ?_
      · rintro Wl ⟨s0, s1, s2, s3, s4, s5, s6, s7⟩
        go_simp
      simp only [Act.put, List.getElem_toArray, List.getElem_cons_succ, List.getElem_cons_zero, List.setIfInBounds_toArray, List.set_cons_zero, List.set_cons_succ]
      refine wpAnyH_take (i := 16) (v := .pointer (some ⟨w.heap.size + 1, 1, none⟩)) rfl (by kernel_rfl) (by kernel_rfl) (by kernel_rfl) (fun _ _ _ h => h) (Or.inl ⟨by kernel_rfl, ?_⟩) HL_ ?_
      · rintro Wl ⟨s0, s1, s2, s3, s4, s5, s6, s7⟩
        go_simp
      simp only [Act.put, List.getElem_toArray, List.getElem_cons_succ, List.getElem_cons_zero, List.setIfInBounds_toArray, List.set_cons_zero, List.set_cons_succ]
      refine wpAnyH_take (i := 17) (v := .int .i64 b) rfl (by kernel_rfl) (by kernel_rfl) (by kernel_rfl) (fun _ _ _ h => h) (Or.inl ⟨by kernel_rfl, ?_⟩) HL_ ?_
      · rintro Wl ⟨s0, s1, s2, s3, s4, s5, s6, s7⟩
        go_simp
      simp only [Act.put, List.getElem_toArray, List.getElem_cons_succ, List.getElem_cons_zero, List.setIfInBounds_toArray, List.set_cons_zero, List.set_cons_succ]
      refine wpAnyH_take (i := 18) (v := .int .i64 (e - b)) rfl (by kernel_rfl) (by kernel_rfl) (by kernel_rfl) (fun _ _ _ h => h) (Or.inl ⟨by kernel_rfl, ?_⟩) HL_ ?_
      · rintro Wl ⟨s0, s1, s2, s3, s4, s5, s6, s7⟩
        go_simp
      simp only [Act.put, List.getElem_toArray, List.getElem_cons_succ, List.getElem_cons_zero, List.setIfInBounds_toArray, List.set_cons_zero, List.set_cons_succ]
      refine wpAnyH_take (i := 19) (v := .int .i64 ((ux - mx) * (e - b))) rfl (by kernel_rfl) (by kernel_rfl) (by kernel_rfl) (fun _ _ _ h => h) (Or.inl ⟨by kernel_rfl, ?_⟩) HL_ ?_
      · rintro Wl ⟨s0, s1, s2, s3, s4, s5, s6, s7⟩
        go_simp
      simp only [Act.put, List.getElem_toArray, List.getElem_cons_succ, List.getElem_cons_zero, List.setIfInBounds_toArray, List.set_cons_zero, List.set_cons_succ]
      refine wpAnyH_take (i := 20) (v := .pointer (some ⟨gm, 1, none⟩)) rfl (by kernel_rfl) (by kernel_rfl) (by kernel_rfl) (fun _ _ _ h => h) (Or.inl ⟨by kernel_rfl, ?_⟩) HL_ ?_
      · rintro Wl ⟨s0, s1, s2, s3, s4, s5, s6, s7⟩
        go_simp
      simp only [Act.put, List.getElem_toArray, List.getElem_cons_succ, List.getElem_cons_zero, List.setIfInBounds_toArray, List.set_cons_zero, List.set_cons_succ]
      refine wpAnyH_take (i := 21) (v := .int .i64 uy) rfl (by kernel_rfl) (by kernel_rfl) (by kernel_rfl) (fun _ _ _ h => h) (Or.inl ⟨by kernel_rfl, ?_⟩) HL_ ?_
      · rintro Wl ⟨s0, s1, s2, s3, s4, s5, s6, s7⟩
        go_simp
      simp only [Act.put, List.getElem_toArray, List.getElem_cons_succ, List.getElem_cons_zero, List.setIfInBounds_toArray, List.set_cons_zero, List.set_cons_succ]
      refine wpAnyH_take (i := 22) (v := .pointer (some ⟨gn, 1, none⟩)) rfl (by kernel_rfl) (by kernel_rfl) (by kernel_rfl) (fun _ _ _ h => h) (Or.inl ⟨by kernel_rfl, ?_⟩) HL_ ?_
      · rintro Wl ⟨s0, s1, s2, s3, s4, s5, s6, s7⟩
        go_simp
      simp only [Act.put, List.getElem_toArray, List.getElem_cons_succ, List.getElem_cons_zero, List.setIfInBounds_toArray, List.set_cons_zero, List.set_cons_succ]
      refine wpAnyH_take (i := 23) (v := .int .i64 my) rfl (by kernel_rfl) (by kernel_rfl) (by kernel_rfl) (fun _ _ _ h => h) (Or.inl ⟨by kernel_rfl, ?_⟩) HL_ ?_
      · rintro Wl ⟨s0, s1, s2, s3, s4, s5, s6, s7⟩
        go_simp
      simp only [Act.put, List.getElem_toArray, List.getElem_cons_succ, List.getElem_cons_zero, List.setIfInBounds_toArray, List.set_cons_zero, List.set_cons_succ]
      refine wpAnyH_take (i := 24) (v := .int .i64 (uy - my)) rfl (by kernel_rfl) (by kernel_rfl) (by kernel_rfl) (fun _ _ _ h => h) (Or.inl ⟨by kernel_rfl, ?_⟩) HL_ ?_
      · rintro Wl ⟨s0, s1, s2, s3, s4, s5, s6, s7⟩
        go_simp
      simp only [Act.put, List.getElem_toArray, List.getElem_cons_succ, List.getElem_cons_zero, List.setIfInBounds_toArray, List.set_cons_zero, List.set_cons_succ]
      refine wpAnyH_take (i := 25) (v := .pointer (some ⟨w.heap.size + 1 + 1, 0, none⟩)) rfl (by kernel_rfl) (by kernel_rfl) (by kernel_rfl) (fun _ _ _ h => h) (Or.inl ⟨by kernel_rfl, ?_⟩) HL_ ?_
      · rintro Wl ⟨s0, s1, s2, s3, s4, s5, s6, s7⟩
        go_simp
      simp only [Act.put, List.getElem_toArray, List.getElem_cons_succ, List.getElem_cons_zero, List.setIfInBounds_toArray, List.set_cons_zero, List.set_cons_succ]
      refine wpAnyH_take (i := 26) (v := .int .i64 d) rfl (by kernel_rfl) (by kernel_rfl) (by kernel_rfl) (fun _ _ _ h => h) (Or.inl ⟨by kernel_rfl, ?_⟩) HL_ ?_
      · rintro Wl ⟨s0, s1, s2, s3, s4, s5, s6, s7⟩
        go_simp
      simp only [Act.put, List.getElem_toArray, List.getElem_cons_succ, List.getElem_cons_zero, List.setIfInBounds_toArray, List.set_cons_zero, List.set_cons_succ]
      refine wpAnyH_take (i := 27) (v := .pointer (some ⟨w.heap.size + 1, 0, none⟩)) rfl (by kernel_rfl) (by kernel_rfl) (by kernel_rfl) (fun _ _ _ h => h) (Or.inl ⟨by kernel_rfl, ?_⟩) HL_ ?_
      · rintro Wl ⟨s0, s1, s2, s3, s4, s5, s6, s7⟩
        go_simp
      simp only [Act.put, List.getElem_toArray, List.getElem_cons_succ, List.getElem_cons_zero, List.setIfInBounds_toArray, List.set_cons_zero, List.set_cons_succ]
      refine wpAnyH_take (i := 28) (v := .int .i64 a) rfl (by kernel_rfl) (by kernel_rfl) (by kernel_rfl) (fun _ _ _ h => h) (Or.inl ⟨by kernel_rfl, ?_⟩) HL_ ?_
      · rintro Wl ⟨s0, s1, s2, s3, s4, s5, s6, s7⟩
        go_simp
      simp only [Act.put, List.getElem_toArray, List.getElem_cons_succ, List.getElem_cons_zero, List.setIfInBounds_toArray, List.set_cons_zero, List.set_cons_succ]
      refine wpAnyH_take (i := 29) (v := .int .i64 (d - a)) rfl (by kernel_rfl) (by kernel_rfl) (by kernel_rfl) (fun _ _ _ h => h) (Or.inl ⟨by kernel_rfl, ?_⟩) HL_ ?_
      · rintro Wl ⟨s0, s1, s2, s3, s4, s5, s6, s7⟩
        go_simp
      simp only [Act.put, List.getElem_toArray, List.getElem_cons_succ, List.getElem_cons_zero, List.setIfInBounds_toArray, List.set_cons_zero, List.set_cons_succ]
      refine wpAnyH_take (i := 30) (v := .int .i64 ((uy - my) * (d - a))) rfl (by kernel_rfl) (by kernel_rfl) (by kernel_rfl) (fun _ _ _ h => h) (Or.inl ⟨by kernel_rfl, ?_⟩) HL_ ?_
      · rintro Wl ⟨s0, s1, s2, s3, s4, s5, s6, s7⟩
        go_simp
      simp only [Act.put, List.getElem_toArray, List.getElem_cons_succ, List.getElem_cons_zero, List.setIfInBounds_toArray, List.set_cons_zero, List.set_cons_succ]
      refine wpAnyH_take (i := 31) (v := .int .i64 ((ux - mx) * (e - b) - (uy - my) * (d - a))) rfl (by kernel_rfl) (by kernel_rfl) (by kernel_rfl) (fun _ _ _ h => h) (Or.inl ⟨by kernel_rfl, ?_⟩) HL_ ?_
      · rintro Wl ⟨s0, s1, s2, s3, s4, s5, s6, s7⟩
        go_simp
      simp only [Act.put, List.getElem_toArray, List.getElem_cons_succ, List.getElem_cons_zero, List.setIfInBounds_toArray, List.set_cons_zero, List.set_cons_succ]
      refine wpAnyH_ready (rs := [0, 8]) (by kernel_rfl) (by simp) ?_
      refine AllReadyH.cons (o := _) rfl (fun K hK => ?_) (AllReadyH.cons (o := _) rfl (fun K hK => ?_) AllReadyH.nil)
      · obtain ⟨v0, v1, v2, v3, v4⟩ := HQ.out.r.cells
        go_simp
        have hb : Below w5.heap.size w5 w5.drew := (Below.refl _ _).drew
        refine hK.out _ _ (kp hb) fun HL_ => ?_
        clear hK K v0 v1 v2 v3 v4
        generalize w5.drew = wc at *
        refine wpAnyH_ready (rs := [8]) (by kernel_rfl) (by simp) ?_
        refine AllReadyH.cons (o := _) rfl (fun K hK => ?_) AllReadyH.nil
        go_simp
        with_reducible refine (HC.out _).mono ?_
        rintro e_ wd ⟨rfl, hb2⟩
        replace hb := on_below hb hb2
        clear hb2
        refine hK.out _ _ (kp hb) fun HL_ => ?_
        clear hK K
        refine wpAnyH_ready (rs := [32]) (by kernel_rfl) (by simp) ?_
        refine AllReadyH.cons (o := _) rfl (fun K hK => ?_) AllReadyH.nil
        go_simp
        with_reducible refine (HN.out _).mono ?_
        rintro e_ we ⟨rfl, hb2⟩
        have hb3 : Below w5.heap.size w5 we := on_below hb hb2
        refine hK.out _ _ (kp hb3) fun HL_ => ?_
        clear hK K hb hb2
        replace HQ := Lib.hid (HQ.out.on hb3)
        obtain ⟨x0, x1, x2, x3, x4⟩ := HQ.out.r.cells
        have y0 := HQ.out.r.fz 0
        have y1 := HQ.out.r.fz 1
        have y2 := HQ.out.r.fz 2
        have y3 := HQ.out.r.fz 3
        have y4 := HQ.out.r.fz 4
        have hp := (⟨put_cell (r := rn) (keepc hb3 n0) (by have := HGR.out; omega), put_cell (r := rn) (keepc hb3 n1) (by have := HGR.out; omega), put_cell (r := rn) (keepc hb3 m0) (by have := hgm.out; omega), put_cell (r := rn) (keepc hb3 m1) (by have := hgm.out; omega), put_cell (r := rn) (keepc hb3 q0) (by have := HO1.out; have := HO2.out; omega), put_cell (r := rn) (keepc hb3 q1) (by have := HO1.out; have := HO2.out; omega), put_cell (r := rn) (keepc hb3 s0) (by have := HO1.out; have := HO2.out; omega), put_cell (r := rn) (keepc hb3 s1) (by have := HO1.out; have := HO2.out; omega)⟩ : (putR we gv rn).cell? ⟨gn, 0, none⟩ = some (.int .i64 mx) ∧ (putR we gv rn).cell? ⟨gn, 1, none⟩ = some (.int .i64 my) ∧ (putR we gv rn).cell? ⟨gm, 0, none⟩ = some (.int .i64 ux) ∧ (putR we gv rn).cell? ⟨gm, 1, none⟩ = some (.int .i64 uy) ∧ (putR we gv rn).cell? ⟨w.heap.size + 1, 0, none⟩ = some (.int .i64 a) ∧ (putR we gv rn).cell? ⟨w.heap.size + 1, 1, none⟩ = some (.int .i64 b) ∧ (putR we gv rn).cell? ⟨w.heap.size + 1 + 1, 0, none⟩ = some (.int .i64 d) ∧ (putR we gv rn).cell? ⟨w.heap.size + 1 + 1, 1, none⟩ = some (.int .i64 e))
        refine wpAnyH_ready (rs := [33]) (by kernel_rfl) (by simp) ?_
        refine AllReadyH.cons (o := _) rfl (fun K hK => ?_) AllReadyH.nil
        go_simp
        refine hK.out _ _ hp fun HL_ => ?_
        clear hK K hp x0 y0 x1 y1 x2 y2 x3 y3 x4 y4
        have HQ9 : Hid (Cq w.heap.size gz gv (some ⟨b0, ob, none⟩) C xs lo hi a b c d e f rn w (((((we.setCell ⟨gv, 0, none⟩ (.int .i64 rn.ln)).setCell ⟨gv, 1, none⟩ (.int .i64 rn.ld)).setCell ⟨gv, 2, none⟩ (.int .i64 rn.hn)).setCell ⟨gv, 3, none⟩ (.int .i64 rn.hd)).setCell ⟨gv, 4, none⟩ (.bool rn.e))) := Lib.hid (HQ.out.put rn)
        generalize (((((we.setCell ⟨gv, 0, none⟩ (.int .i64 rn.ln)).setCell ⟨gv, 1, none⟩ (.int .i64 rn.ld)).setCell ⟨gv, 2, none⟩ (.int .i64 rn.hn)).setCell ⟨gv, 3, none⟩ (.int .i64 rn.hd)).setCell ⟨gv, 4, none⟩ (.bool rn.e)) = w9 at *
        refine wpAnyH_done (by kernel_rfl) ?_ _
        clear HL_ kp HQ HC HN n0 n1 m0 m1 q0 q1 s0 s1
        go_wp2_with fail
        go_roundw
        case rel => exact ⟨k + 1, hlt, int_of (by first | rfl | exact w1_ | exact w2_ | omega), by rw [HRN.out]; exact HQ9⟩
        case measure => simp [intOf]; omega
      · go_simp
        with_reducible refine (HC.out _).mono ?_
        rintro e_ wd ⟨rfl, hb⟩
        replace hb : Below w5.heap.size w5 wd := undrew_b hb
        refine hK.out _ _ (kp hb) fun HL_ => ?_
        clear hK K
        obtain ⟨v0, v1, v2, v3, v4⟩ := (HQ.out.on hb).r.cells
        refine wpAnyH_ready (rs := [0]) (by kernel_rfl) (by simp) ?_
        refine AllReadyH.cons (o := _) rfl (fun K hK => ?_) AllReadyH.nil
        go_simp
        refine hK.out _ _ (kp hb) fun HL_ => ?_
        clear hK K v0 v1 v2 v3 v4
        refine wpAnyH_ready (rs := [32]) (by kernel_rfl) (by simp) ?_
        refine AllReadyH.cons (o := _) rfl (fun K hK => ?_) AllReadyH.nil
        go_simp
        with_reducible refine (HN.out _).mono ?_
        rintro e_ we ⟨rfl, hb2⟩
        have hb3 : Below w5.heap.size w5 we := on_below hb hb2
        refine hK.out _ _ (kp hb3) fun HL_ => ?_
        clear hK K hb hb2
        replace HQ := Lib.hid (HQ.out.on hb3)
        obtain ⟨x0, x1, x2, x3, x4⟩ := HQ.out.r.cells
        have y0 := HQ.out.r.fz 0
        have y1 := HQ.out.r.fz 1
        have y2 := HQ.out.r.fz 2
        have y3 := HQ.out.r.fz 3
        have y4 := HQ.out.r.fz 4
        have hp := (⟨put_cell (r := rn) (keepc hb3 n0) (by have := HGR.out; omega), put_cell (r := rn) (keepc hb3 n1) (by have := HGR.out; omega), put_cell (r := rn) (keepc hb3 m0) (by have := hgm.out; omega), put_cell (r := rn) (keepc hb3 m1) (by have := hgm.out; omega), put_cell (r := rn) (keepc hb3 q0) (by have := HO1.out; have := HO2.out; omega), put_cell (r := rn) (keepc hb3 q1) (by have := HO1.out; have := HO2.out; omega), put_cell (r := rn) (keepc hb3 s0) (by have := HO1.out; have := HO2.out; omega), put_cell (r := rn) (keepc hb3 s1) (by have := HO1.out; have := HO2.out; omega)⟩ : (putR we gv rn).cell? ⟨gn, 0, none⟩ = some (.int .i64 mx) ∧ (putR we gv rn).cell? ⟨gn, 1, none⟩ = some (.int .i64 my) ∧ (putR we gv rn).cell? ⟨gm, 0, none⟩ = some (.int .i64 ux) ∧ (putR we gv rn).cell? ⟨gm, 1, none⟩ = some (.int .i64 uy) ∧ (putR we gv rn).cell? ⟨w.heap.size + 1, 0, none⟩ = some (.int .i64 a) ∧ (putR we gv rn).cell? ⟨w.heap.size + 1, 1, none⟩ = some (.int .i64 b) ∧ (putR we gv rn).cell? ⟨w.heap.size + 1 + 1, 0, none⟩ = some (.int .i64 d) ∧ (putR we gv rn).cell? ⟨w.heap.size + 1 + 1, 1, none⟩ = some (.int .i64 e))
        refine wpAnyH_ready (rs := [33]) (by kernel_rfl) (by simp) ?_
        refine AllReadyH.cons (o := _) rfl (fun K hK => ?_) AllReadyH.nil
        go_simp
        refine hK.out _ _ hp fun HL_ => ?_
        clear hK K hp x0 y0 x1 y1 x2 y2 x3 y3 x4 y4
        have HQ9 : Hid (Cq w.heap.size gz gv (some ⟨b0, ob, none⟩) C xs lo hi a b c d e f rn w (((((we.setCell ⟨gv, 0, none⟩ (.int .i64 rn.ln)).setCell ⟨gv, 1, none⟩ (.int .i64 rn.ld)).setCell ⟨gv, 2, none⟩ (.int .i64 rn.hn)).setCell ⟨gv, 3, none⟩ (.int .i64 rn.hd)).setCell ⟨gv, 4, none⟩ (.bool rn.e))) := Lib.hid (HQ.out.put rn)
        generalize (((((we.setCell ⟨gv, 0, none⟩ (.int .i64 rn.ln)).setCell ⟨gv, 1, none⟩ (.int .i64 rn.ld)).setCell ⟨gv, 2, none⟩ (.int .i64 rn.hn)).setCell ⟨gv, 3, none⟩ (.int .i64 rn.hd)).setCell ⟨gv, 4, none⟩ (.bool rn.e)) = w9 at *
        refine wpAnyH_done (by kernel_rfl) ?_ _
        clear HL_ kp HQ HC HN n0 n1 m0 m1 q0 q1 s0 s1
        go_wp2_with fail
        go_roundw
        case rel => exact ⟨k + 1, hlt, int_of (by first | rfl | exact w1_ | exact w2_ | omega), by rw [HRN.out]; exact HQ9⟩
        case measure => simp [intOf]; omega
    · have hke : k = xs.length := by omega
      subst hke
      have hend := rr_end ba.out va.out vd.out
      have hok := rr_ok ba.out va.out vd.out xs.length
      have zl := ba.out.zl
      have zh := ba.out.zh
      have bv := va.out.z
      have bd := vd.out.z
      obtain ⟨c1, c2⟩ := zl
      obtain ⟨c3, c4⟩ := zh
      obtain ⟨c5, c6⟩ := bv
      obtain ⟨c7, c8⟩ := bd
      have hok2 := nrw_ok (a := c - lo) (b := f - c) hok ⟨by omega, by omega⟩ ⟨by omega, by omega⟩
      have hok3 := nrw_ok (a := hi - c) (b := c - f) hok2 ⟨by omega, by omega⟩ ⟨by omega, by omega⟩
      have HN1 := Lib.hid (fun W => qnar_any _ (c - lo) (f - c) hok ⟨by omega, by omega⟩ ⟨by omega, by omega⟩ W)
      have HN2 := Lib.hid (fun W => qnar_any _ (hi - c) (c - f) hok2 ⟨by omega, by omega⟩ ⟨by omega, by omega⟩ W)
      rw [hend] at HR
      clear hend hok hok2
      generalize clp r0 ((cnd xs lo hi a b c d e f).take xs.length) = ra at *
      generalize nrw ra (c - lo) (f - c) = rb at *
      generalize nrw rb (hi - c) (c - f) = rc at *
      simp only [rgv] at HN1 HN2
      have HOK := Lib.hid hok3
      clear hok3
      have wf0 : IntKind.i64.wrap (c - lo) = c - lo := IntWalk.i64_in _ ⟨by omega, by omega⟩
      have wg0 : wrap64 (c - lo) = c - lo := IntWalk.wrap64_in _ ⟨by omega, by omega⟩
      have wf1 : IntKind.i64.wrap (f - c) = f - c := IntWalk.i64_in _ ⟨by omega, by omega⟩
      have wg1 : wrap64 (f - c) = f - c := IntWalk.wrap64_in _ ⟨by omega, by omega⟩
      have wf2 : IntKind.i64.wrap (hi - c) = hi - c := IntWalk.i64_in _ ⟨by omega, by omega⟩
      have wg2 : wrap64 (hi - c) = hi - c := IntWalk.wrap64_in _ ⟨by omega, by omega⟩
      have wf3 : IntKind.i64.wrap (c - f) = c - f := IntWalk.i64_in _ ⟨by omega, by omega⟩
      have wg3 : wrap64 (c - f) = c - f := IntWalk.wrap64_in _ ⟨by omega, by omega⟩
      clear c1 c2 c3 c4 c5 c6 c7 c8
      obtain ⟨v0, v1, v2, v3, v4⟩ := HQ.out.r.cells
      have y0 := HQ.out.r.fz 0
      have y1 := HQ.out.r.fz 1
      have y2 := HQ.out.r.fz 2
      have y3 := HQ.out.r.fz 3
      have y4 := HQ.out.r.fz 4
      go_wp2_with fail
      with_reducible refine (HN1.out _).mono ?_
      rintro e_ w2 ⟨rfl, hb⟩
      replace HQ := Lib.hid (HQ.out.on hb)
      clear hb HN1 v0 v1 v2 v3 v4 y0 y1 y2 y3 y4 p0 p1 p2 q0 q1 q2 s0 s1 s2
      have HO1 := Lib.hid HQ.out.o1
      have HO2 := Lib.hid HQ.out.o2
      have ne0 : ¬ w.heap.size = gv := by have := HO1.out; have := HO2.out; omega
      have ne1 : ¬ w.heap.size + 1 = gv := by have := HO1.out; have := HO2.out; omega
      have ne2 : ¬ w.heap.size + 1 + 1 = gv := by have := HO1.out; have := HO2.out; omega
      have ne3 : ¬ w.heap.size + 1 + 1 + 1 = gv := by have := HO1.out; have := HO2.out; omega
      have ne4 : ¬ w.heap.size + 1 + 1 + 1 + 1 = gv := by have := HO1.out; have := HO2.out; omega
      have ne5 : ¬ gz = gv := by have := HO1.out; have := HO2.out; omega
      have ne6 : ¬ w.heap.size + 1 + 1 + 1 = gz := by have := HO1.out; have := HO2.out; omega
      have ne7 : ¬ w.heap.size + 1 + 1 + 1 + 1 = gz := by have := HO1.out; have := HO2.out; omega
      have nr0 : ¬ gv = w.heap.size := by have := HO1.out; have := HO2.out; omega
      have nr1 : ¬ gv = w.heap.size + 1 := by have := HO1.out; have := HO2.out; omega
      have nr2 : ¬ gv = w.heap.size + 1 + 1 := by have := HO1.out; have := HO2.out; omega
      have nr3 : ¬ gv = w.heap.size + 1 + 1 + 1 := by have := HO1.out; have := HO2.out; omega
      have nr4 : ¬ gv = w.heap.size + 1 + 1 + 1 + 1 := by have := HO1.out; have := HO2.out; omega
      have nr5 : ¬ gv = gz := by have := HO1.out; have := HO2.out; omega
      have nr6 : ¬ gz = w.heap.size + 1 + 1 + 1 := by have := HO1.out; have := HO2.out; omega
      have nr7 : ¬ gz = w.heap.size + 1 + 1 + 1 + 1 := by have := HO1.out; have := HO2.out; omega
      obtain ⟨p0, p1, p2⟩ := cells3 HQ.out.k.p
      obtain ⟨q0, q1, q2⟩ := cells3 HQ.out.k.q
      obtain ⟨s0, s1, s2⟩ := cells3 HQ.out.k.s
      obtain ⟨v0, v1, v2, v3, v4⟩ := HQ.out.r.cells
      have y0 := HQ.out.r.fz 0
      have y1 := HQ.out.r.fz 1
      have y2 := HQ.out.r.fz 2
      have y3 := HQ.out.r.fz 3
      have y4 := HQ.out.r.fz 4
      go_wp2_with fail
      replace HQ : Hid (Cq w.heap.size gz gv A C xs lo hi a b c d e f rb w (((((w2.setCell ⟨gv, 0, none⟩ (.int .i64 rb.ln)).setCell ⟨gv, 1, none⟩ (.int .i64 rb.ld)).setCell ⟨gv, 2, none⟩ (.int .i64 rb.hn)).setCell ⟨gv, 3, none⟩ (.int .i64 rb.hd)).setCell ⟨gv, 4, none⟩ (.bool rb.e))) := Lib.hid (HQ.out.put rb)
      generalize (((((w2.setCell ⟨gv, 0, none⟩ (.int .i64 rb.ln)).setCell ⟨gv, 1, none⟩ (.int .i64 rb.ld)).setCell ⟨gv, 2, none⟩ (.int .i64 rb.hn)).setCell ⟨gv, 3, none⟩ (.int .i64 rb.hd)).setCell ⟨gv, 4, none⟩ (.bool rb.e)) = w3 at *
      with_reducible refine (HN2.out _).mono ?_
      rintro e_ w4 ⟨rfl, hb⟩
      replace HQ := Lib.hid (HQ.out.on hb)
      clear hb HN2 v0 v1 v2 v3 v4 y0 y1 y2 y3 y4 p0 p1 p2 q0 q1 q2 s0 s1 s2
      obtain ⟨v0, v1, v2, v3, v4⟩ := HQ.out.r.cells
      have y0 := HQ.out.r.fz 0
      have y1 := HQ.out.r.fz 1
      have y2 := HQ.out.r.fz 2
      have y3 := HQ.out.r.fz 3
      have y4 := HQ.out.r.fz 4
      obtain ⟨z0, z1⟩ := cells2 HQ.out.z
      obtain ⟨x0, x1⟩ := cells2 HQ.out.k.x
      obtain ⟨u0, u1⟩ := cells2 HQ.out.k.y
      have fx0 := Lr.fz HQ.out.k.x 0
      have fx1 := Lr.fz HQ.out.k.x 1
      have fu0 := Lr.fz HQ.out.k.y 0
      have fu1 := Lr.fz HQ.out.k.y 1
      have lx := block_lt x0
      have lu := block_lt u0
      have lv := block_lt v0
      obtain ⟨n1, n2, n3, n4, ee⟩ := rc
      dsimp only at *
      have HL_ := Lib.hid (fun W => qless_is n1 n2 n3 n4 (decide (n1 * n4 < n3 * n2)) rfl ⟨by have := HOK.out.l; simp only at this; omega, by have := HOK.out.l; simp only at this; omega⟩ ⟨by have := HOK.out.ld; simp only at this; omega, by have := HOK.out.ld; simp only at this; omega⟩ ⟨by have := HOK.out.h; simp only at this; omega, by have := HOK.out.h; simp only at this; omega⟩ ⟨by have := HOK.out.hd; simp only at this; omega, by have := HOK.out.hd; simp only at this; omega⟩ W)
      have HB := Lib.hid HQ.out.bel
      cases ee
      · go_wp2_with fail
        replace HQ : Hid (Cq w.heap.size gz gv A C xs lo hi a b c d e f ⟨n1, n2, n3, n4, false⟩ w (((((w4.setCell ⟨gv, 0, none⟩ (.int .i64 n1)).setCell ⟨gv, 1, none⟩ (.int .i64 n2)).setCell ⟨gv, 2, none⟩ (.int .i64 n3)).setCell ⟨gv, 3, none⟩ (.int .i64 n4)).setCell ⟨gv, 4, none⟩ (.bool false))) := Lib.hid (HQ.out.put ⟨n1, n2, n3, n4, false⟩)
        clear z0 z1 x0 x1 u0 u1 v0 v1 v2 v3 v4 fx0 fx1 fu0 fu1 lx lu lv y0 y1 y2 y3 y4 HB
        generalize (((((w4.setCell ⟨gv, 0, none⟩ (.int .i64 n1)).setCell ⟨gv, 1, none⟩ (.int .i64 n2)).setCell ⟨gv, 2, none⟩ (.int .i64 n3)).setCell ⟨gv, 3, none⟩ (.int .i64 n4)).setCell ⟨gv, 4, none⟩ (.bool false)) = w5 at *
        with_reducible refine (HL_.out _).mono ?_
        rintro e_ w6 ⟨rfl, hb⟩
        replace HQ := Lib.hid (HQ.out.on hb)
        clear hb HL_
        by_cases hh : n1 * n4 < n3 * n2
        · have hR : (⟨n1, n2, n3, n4, true⟩ : Cln) = R := by have h := HR.out; rw [clres, if_pos (by simp [hitB, hh])] at h; exact h
          clear HR
          subst hR
          rw [decide_eq_true hh]
          go_wp2_with fail
          obtain ⟨v0, v1, v2, v3, v4⟩ := HQ.out.r.cells
          dsimp only at v0 v1 v2 v3 v4
          obtain ⟨x0, x1⟩ := cells2 HQ.out.k.x
          have fx0 := Lr.fz HQ.out.k.x 0
          have fx1 := Lr.fz HQ.out.k.x 1
          refine wp_region_held_drew (S := fun V => V.cell? ⟨gv, 0, none⟩ = some (.int .i64 n1) ∧ V.cell? ⟨gv, 1, none⟩ = some (.int .i64 n2) ∧ V.cell? ⟨gv, 2, none⟩ = some (.int .i64 n3) ∧ V.cell? ⟨gv, 3, none⟩ = some (.int .i64 n4)) (by kernel_rfl) ⟨v0, v1, v2, v3⟩ fun HL_ => ?_
          refine wpAnyH_take (i := 0) (v := .pointer (some ⟨gv, 0, none⟩)) rfl (by kernel_rfl) (by kernel_rfl) (by kernel_rfl) (fun _ _ _ h => h) (Or.inl ⟨by kernel_rfl, ?_⟩) HL_ ?_
          · rintro Wl ⟨s0, s1, s2, s3⟩
            go_simp
          simp only [Act.put, List.getElem_toArray, List.getElem_cons_succ, List.getElem_cons_zero, List.setIfInBounds_toArray, List.set_cons_zero, List.set_cons_succ]
          refine wpAnyH_take (i := 1) (v := .agg #[.int .i64 n1, .int .i64 n2]) rfl (by kernel_rfl) (by kernel_rfl) (by kernel_rfl) (fun _ _ _ h => h) (Or.inl ⟨by kernel_rfl, ?_⟩) HL_ ?_
          · rintro Wl ⟨s0, s1, s2, s3⟩
            go_simp
          simp only [Act.put, List.getElem_toArray, List.getElem_cons_succ, List.getElem_cons_zero, List.setIfInBounds_toArray, List.set_cons_zero, List.set_cons_succ]
          refine wpAnyH_take (i := 2) (v := .pointer (some ⟨gv, 2, none⟩)) rfl (by kernel_rfl) (by kernel_rfl) (by kernel_rfl) (fun _ _ _ h => h) (Or.inl ⟨by kernel_rfl, ?_⟩) HL_ ?_
          · rintro Wl ⟨s0, s1, s2, s3⟩
            go_simp
          simp only [Act.put, List.getElem_toArray, List.getElem_cons_succ, List.getElem_cons_zero, List.setIfInBounds_toArray, List.set_cons_zero, List.set_cons_succ]
          refine wpAnyH_take (i := 3) (v := .agg #[.int .i64 n3, .int .i64 n4]) rfl (by kernel_rfl) (by kernel_rfl) (by kernel_rfl) (fun _ _ _ h => h) (Or.inl ⟨by kernel_rfl, ?_⟩) HL_ ?_
          · rintro Wl ⟨s0, s1, s2, s3⟩
            go_simp
          simp only [Act.put, List.getElem_toArray, List.getElem_cons_succ, List.getElem_cons_zero, List.setIfInBounds_toArray, List.set_cons_zero, List.set_cons_succ]
          refine wpAnyH_ready (rs := [4]) (by kernel_rfl) (by simp) ?_
          refine AllReadyH.cons (o := _) rfl (fun K hK => ?_) AllReadyH.nil
          go_simp
          have hS : ((w6.setCell ⟨w.heap.size + 1 + 1 + 1, 0, none⟩ (.int .i64 n1)).setCell ⟨w.heap.size + 1 + 1 + 1, 1, none⟩ (.int .i64 n2)).drew.cell? ⟨gv, 0, none⟩ = some (.int .i64 n1) ∧ ((w6.setCell ⟨w.heap.size + 1 + 1 + 1, 0, none⟩ (.int .i64 n1)).setCell ⟨w.heap.size + 1 + 1 + 1, 1, none⟩ (.int .i64 n2)).drew.cell? ⟨gv, 1, none⟩ = some (.int .i64 n2) ∧ ((w6.setCell ⟨w.heap.size + 1 + 1 + 1, 0, none⟩ (.int .i64 n1)).setCell ⟨w.heap.size + 1 + 1 + 1, 1, none⟩ (.int .i64 n2)).drew.cell? ⟨gv, 2, none⟩ = some (.int .i64 n3) ∧ ((w6.setCell ⟨w.heap.size + 1 + 1 + 1, 0, none⟩ (.int .i64 n1)).setCell ⟨w.heap.size + 1 + 1 + 1, 1, none⟩ (.int .i64 n2)).drew.cell? ⟨gv, 3, none⟩ = some (.int .i64 n4) := ⟨set_far (set_far v0 (by have := HO1.out; have := HO2.out; omega)) (by have := HO1.out; have := HO2.out; omega), set_far (set_far v1 (by have := HO1.out; have := HO2.out; omega)) (by have := HO1.out; have := HO2.out; omega), set_far (set_far v2 (by have := HO1.out; have := HO2.out; omega)) (by have := HO1.out; have := HO2.out; omega), set_far (set_far v3 (by have := HO1.out; have := HO2.out; omega)) (by have := HO1.out; have := HO2.out; omega)⟩
          have LX : Lr (((w6.setCell ⟨w.heap.size + 1 + 1 + 1, 0, none⟩ (.int .i64 n1)).setCell ⟨w.heap.size + 1 + 1 + 1, 1, none⟩ (.int .i64 n2)).drew) (w.heap.size + 1 + 1 + 1) (n1) (n2) := HQ.out.k.x.put _ _
          have LY : Lr (((w6.setCell ⟨w.heap.size + 1 + 1 + 1, 0, none⟩ (.int .i64 n1)).setCell ⟨w.heap.size + 1 + 1 + 1, 1, none⟩ (.int .i64 n2)).drew) (w.heap.size + 1 + 1 + 1 + 1) 0 0 := HQ.out.k.y.far (by have := HO1.out; have := HO2.out; omega) _ _
          have HB7 : Hid (Below w.heap.size w (((w6.setCell ⟨w.heap.size + 1 + 1 + 1, 0, none⟩ (.int .i64 n1)).setCell ⟨w.heap.size + 1 + 1 + 1, 1, none⟩ (.int .i64 n2)).drew)) := Lib.hid ((HQ.out.bel.setCell (show w.heap.size ≤ w.heap.size + 1 + 1 + 1 by omega) _).setCell (show w.heap.size ≤ w.heap.size + 1 + 1 + 1 by omega) _).drew
          refine hK.out _ _ hS fun HL_ => ?_
          clear hK K x0 x1 fx0 fx1 HQ v0 v1 v2 v3
          generalize ((w6.setCell ⟨w.heap.size + 1 + 1 + 1, 0, none⟩ (.int .i64 n1)).setCell ⟨w.heap.size + 1 + 1 + 1, 1, none⟩ (.int .i64 n2)).drew = w7 at *
          obtain ⟨u0, u1⟩ := cells2 LY
          have fu0 := Lr.fz LY 0
          have fu1 := Lr.fz LY 1
          obtain ⟨v0, v1, v2, v3⟩ := hS
          refine wpAnyH_ready (rs := [5]) (by kernel_rfl) (by simp) ?_
          refine AllReadyH.cons (o := _) rfl (fun K hK => ?_) AllReadyH.nil
          go_simp
          refine hK.out _ _ ⟨set_far (set_far v0 (by have := HO1.out; have := HO2.out; omega)) (by have := HO1.out; have := HO2.out; omega), set_far (set_far v1 (by have := HO1.out; have := HO2.out; omega)) (by have := HO1.out; have := HO2.out; omega), set_far (set_far v2 (by have := HO1.out; have := HO2.out; omega)) (by have := HO1.out; have := HO2.out; omega), set_far (set_far v3 (by have := HO1.out; have := HO2.out; omega)) (by have := HO1.out; have := HO2.out; omega)⟩ fun HL_ => ?_
          clear hK K
          refine wpAnyH_take (i := 6) (v := .bool true) rfl (by kernel_rfl) (by kernel_rfl) (by kernel_rfl) (fun _ _ _ h => h) (Or.inl ⟨by kernel_rfl, ?_⟩) HL_ ?_
          · rintro Wl ⟨s0, s1, s2, s3⟩
            go_simp
          simp only [Act.put, List.getElem_toArray, List.getElem_cons_succ, List.getElem_cons_zero, List.setIfInBounds_toArray, List.set_cons_zero, List.set_cons_succ]
          refine wpAnyH_take (i := 7) (v := .int .i64 0) rfl (by kernel_rfl) (by kernel_rfl) (by kernel_rfl) (fun _ _ _ h => h) (Or.inl ⟨by kernel_rfl, ?_⟩) HL_ ?_
          · rintro Wl ⟨s0, s1, s2, s3⟩
            go_simp
          simp only [Act.put, List.getElem_toArray, List.getElem_cons_succ, List.getElem_cons_zero, List.setIfInBounds_toArray, List.set_cons_zero, List.set_cons_succ]
          refine wpAnyH_done (by kernel_rfl) ?_ _
          clear HL_ u0 u1 fu0 fu1 v0 v1 v2 v3
          have LX2 : Lr ((w7.setCell ⟨w.heap.size + 1 + 1 + 1 + 1, 0, none⟩ (.int .i64 n3)).setCell ⟨w.heap.size + 1 + 1 + 1 + 1, 1, none⟩ (.int .i64 n4)) (w.heap.size + 1 + 1 + 1) (n1) (n2) := LX.far (by have := HO1.out; have := HO2.out; omega) _ _
          have LY2 : Lr ((w7.setCell ⟨w.heap.size + 1 + 1 + 1 + 1, 0, none⟩ (.int .i64 n3)).setCell ⟨w.heap.size + 1 + 1 + 1 + 1, 1, none⟩ (.int .i64 n4)) (w.heap.size + 1 + 1 + 1 + 1) (n3) (n4) := LY.put _ _
          have HB : Hid (Below w.heap.size w ((w7.setCell ⟨w.heap.size + 1 + 1 + 1 + 1, 0, none⟩ (.int .i64 n3)).setCell ⟨w.heap.size + 1 + 1 + 1 + 1, 1, none⟩ (.int .i64 n4))) := Lib.hid ((HB7.out.setCell (show w.heap.size ≤ w.heap.size + 1 + 1 + 1 + 1 by omega) _).setCell (show w.heap.size ≤ w.heap.size + 1 + 1 + 1 + 1 by omega) _)
          clear LX LY HB7
          generalize ((w7.setCell ⟨w.heap.size + 1 + 1 + 1 + 1, 0, none⟩ (.int .i64 n3)).setCell ⟨w.heap.size + 1 + 1 + 1 + 1, 1, none⟩ (.int .i64 n4)) = w8 at *
          obtain ⟨x0, x1⟩ := cells2 LX2
          obtain ⟨u0, u1⟩ := cells2 LY2
          clear LX2 LY2
          go_wp2_with fail
          refine bodyPost_ret (v := .tuple #[.agg #[.int .i64 n1, .int .i64 n2], .agg #[.int .i64 n3, .int .i64 n4], .bool true, .int .i64 0]) (by simp [results, Try.results24, go_sem, x0, x1, u0, u1]) rfl ⟨rfl, HB.out⟩
        · have hR : (⟨0, 1, 0, 1, false⟩ : Cln) = R := by have h := HR.out; rw [clres, if_neg (by simp [hitB, hh])] at h; exact h
          clear HR
          subst hR
          rw [decide_eq_false hh]
          go_wp2_with fail
          obtain ⟨z0, z1⟩ := cells2 HQ.out.z
          obtain ⟨x0, x1⟩ := cells2 HQ.out.k.x
          have fx0 := Lr.fz HQ.out.k.x 0
          have fx1 := Lr.fz HQ.out.k.x 1
          refine wp_region_held_drew (S := fun V => V.cell? ⟨gz, 0, none⟩ = some (.int .i64 0) ∧ V.cell? ⟨gz, 1, none⟩ = some (.int .i64 1)) (by kernel_rfl) ⟨z0, z1⟩ fun HL_ => ?_
          refine wpAnyH_take (i := 0) (v := .agg #[.int .i64 0, .int .i64 1]) rfl (by kernel_rfl) (by kernel_rfl) (by kernel_rfl) (fun _ _ _ h => h) (Or.inl ⟨by kernel_rfl, ?_⟩) HL_ ?_
          · rintro Wl ⟨s0, s1⟩
            go_simp
          simp only [Act.put, List.getElem_toArray, List.getElem_cons_succ, List.getElem_cons_zero, List.setIfInBounds_toArray, List.set_cons_zero, List.set_cons_succ]
          refine wpAnyH_take (i := 1) (v := .agg #[.int .i64 0, .int .i64 1]) rfl (by kernel_rfl) (by kernel_rfl) (by kernel_rfl) (fun _ _ _ h => h) (Or.inl ⟨by kernel_rfl, ?_⟩) HL_ ?_
          · rintro Wl ⟨s0, s1⟩
            go_simp
          simp only [Act.put, List.getElem_toArray, List.getElem_cons_succ, List.getElem_cons_zero, List.setIfInBounds_toArray, List.set_cons_zero, List.set_cons_succ]
          refine wpAnyH_ready (rs := [2]) (by kernel_rfl) (by simp) ?_
          refine AllReadyH.cons (o := _) rfl (fun K hK => ?_) AllReadyH.nil
          go_simp
          have hS : ((w6.setCell ⟨w.heap.size + 1 + 1 + 1, 0, none⟩ (.int .i64 0)).setCell ⟨w.heap.size + 1 + 1 + 1, 1, none⟩ (.int .i64 1)).drew.cell? ⟨gz, 0, none⟩ = some (.int .i64 0) ∧ ((w6.setCell ⟨w.heap.size + 1 + 1 + 1, 0, none⟩ (.int .i64 0)).setCell ⟨w.heap.size + 1 + 1 + 1, 1, none⟩ (.int .i64 1)).drew.cell? ⟨gz, 1, none⟩ = some (.int .i64 1) := ⟨set_far (set_far z0 (by have := HO1.out; have := HO2.out; omega)) (by have := HO1.out; have := HO2.out; omega), set_far (set_far z1 (by have := HO1.out; have := HO2.out; omega)) (by have := HO1.out; have := HO2.out; omega)⟩
          have LX : Lr (((w6.setCell ⟨w.heap.size + 1 + 1 + 1, 0, none⟩ (.int .i64 0)).setCell ⟨w.heap.size + 1 + 1 + 1, 1, none⟩ (.int .i64 1)).drew) (w.heap.size + 1 + 1 + 1) (0) (1) := HQ.out.k.x.put _ _
          have LY : Lr (((w6.setCell ⟨w.heap.size + 1 + 1 + 1, 0, none⟩ (.int .i64 0)).setCell ⟨w.heap.size + 1 + 1 + 1, 1, none⟩ (.int .i64 1)).drew) (w.heap.size + 1 + 1 + 1 + 1) 0 0 := HQ.out.k.y.far (by have := HO1.out; have := HO2.out; omega) _ _
          have HB7 : Hid (Below w.heap.size w (((w6.setCell ⟨w.heap.size + 1 + 1 + 1, 0, none⟩ (.int .i64 0)).setCell ⟨w.heap.size + 1 + 1 + 1, 1, none⟩ (.int .i64 1)).drew)) := Lib.hid ((HQ.out.bel.setCell (show w.heap.size ≤ w.heap.size + 1 + 1 + 1 by omega) _).setCell (show w.heap.size ≤ w.heap.size + 1 + 1 + 1 by omega) _).drew
          refine hK.out _ _ hS fun HL_ => ?_
          clear hK K x0 x1 fx0 fx1 HQ z0 z1
          generalize ((w6.setCell ⟨w.heap.size + 1 + 1 + 1, 0, none⟩ (.int .i64 0)).setCell ⟨w.heap.size + 1 + 1 + 1, 1, none⟩ (.int .i64 1)).drew = w7 at *
          obtain ⟨u0, u1⟩ := cells2 LY
          have fu0 := Lr.fz LY 0
          have fu1 := Lr.fz LY 1
          obtain ⟨z0, z1⟩ := hS
          refine wpAnyH_ready (rs := [3]) (by kernel_rfl) (by simp) ?_
          refine AllReadyH.cons (o := _) rfl (fun K hK => ?_) AllReadyH.nil
          go_simp
          refine hK.out _ _ ⟨set_far (set_far z0 (by have := HO1.out; have := HO2.out; omega)) (by have := HO1.out; have := HO2.out; omega), set_far (set_far z1 (by have := HO1.out; have := HO2.out; omega)) (by have := HO1.out; have := HO2.out; omega)⟩ fun HL_ => ?_
          clear hK K
          refine wpAnyH_take (i := 4) (v := .bool false) rfl (by kernel_rfl) (by kernel_rfl) (by kernel_rfl) (fun _ _ _ h => h) (Or.inl ⟨by kernel_rfl, ?_⟩) HL_ ?_
          · rintro Wl ⟨s0, s1⟩
            go_simp
          simp only [Act.put, List.getElem_toArray, List.getElem_cons_succ, List.getElem_cons_zero, List.setIfInBounds_toArray, List.set_cons_zero, List.set_cons_succ]
          refine wpAnyH_take (i := 5) (v := .int .i64 0) rfl (by kernel_rfl) (by kernel_rfl) (by kernel_rfl) (fun _ _ _ h => h) (Or.inl ⟨by kernel_rfl, ?_⟩) HL_ ?_
          · rintro Wl ⟨s0, s1⟩
            go_simp
          simp only [Act.put, List.getElem_toArray, List.getElem_cons_succ, List.getElem_cons_zero, List.setIfInBounds_toArray, List.set_cons_zero, List.set_cons_succ]
          refine wpAnyH_done (by kernel_rfl) ?_ _
          clear HL_ u0 u1 fu0 fu1 z0 z1
          have LX2 : Lr ((w7.setCell ⟨w.heap.size + 1 + 1 + 1 + 1, 0, none⟩ (.int .i64 0)).setCell ⟨w.heap.size + 1 + 1 + 1 + 1, 1, none⟩ (.int .i64 1)) (w.heap.size + 1 + 1 + 1) (0) (1) := LX.far (by have := HO1.out; have := HO2.out; omega) _ _
          have LY2 : Lr ((w7.setCell ⟨w.heap.size + 1 + 1 + 1 + 1, 0, none⟩ (.int .i64 0)).setCell ⟨w.heap.size + 1 + 1 + 1 + 1, 1, none⟩ (.int .i64 1)) (w.heap.size + 1 + 1 + 1 + 1) (0) (1) := LY.put _ _
          have HB : Hid (Below w.heap.size w ((w7.setCell ⟨w.heap.size + 1 + 1 + 1 + 1, 0, none⟩ (.int .i64 0)).setCell ⟨w.heap.size + 1 + 1 + 1 + 1, 1, none⟩ (.int .i64 1))) := Lib.hid ((HB7.out.setCell (show w.heap.size ≤ w.heap.size + 1 + 1 + 1 + 1 by omega) _).setCell (show w.heap.size ≤ w.heap.size + 1 + 1 + 1 + 1 by omega) _)
          clear LX LY HB7
          generalize ((w7.setCell ⟨w.heap.size + 1 + 1 + 1 + 1, 0, none⟩ (.int .i64 0)).setCell ⟨w.heap.size + 1 + 1 + 1 + 1, 1, none⟩ (.int .i64 1)) = w8 at *
          obtain ⟨x0, x1⟩ := cells2 LX2
          obtain ⟨u0, u1⟩ := cells2 LY2
          clear LX2 LY2
          go_wp2_with fail
          refine bodyPost_ret (v := .tuple #[.agg #[.int .i64 0, .int .i64 1], .agg #[.int .i64 0, .int .i64 1], .bool false, .int .i64 0]) (by simp [results, Try.results24, go_sem, x0, x1, u0, u1]) rfl ⟨rfl, HB.out⟩
      · have hR : (⟨0, 1, 0, 1, false⟩ : Cln) = R := by have h := HR.out; rw [clres, if_neg (by simp [hitB])] at h; exact h
        clear HR
        subst hR
        go_wp2_with fail
        replace HQ : Hid (Cq w.heap.size gz gv A C xs lo hi a b c d e f ⟨n1, n2, n3, n4, true⟩ w (((((w4.setCell ⟨gv, 0, none⟩ (.int .i64 n1)).setCell ⟨gv, 1, none⟩ (.int .i64 n2)).setCell ⟨gv, 2, none⟩ (.int .i64 n3)).setCell ⟨gv, 3, none⟩ (.int .i64 n4)).setCell ⟨gv, 4, none⟩ (.bool true))) := Lib.hid (HQ.out.put ⟨n1, n2, n3, n4, true⟩)
        clear z0 z1 x0 x1 u0 u1 v0 v1 v2 v3 v4 fx0 fx1 fu0 fu1 lx lu lv y0 y1 y2 y3 y4 HB HL_
        generalize (((((w4.setCell ⟨gv, 0, none⟩ (.int .i64 n1)).setCell ⟨gv, 1, none⟩ (.int .i64 n2)).setCell ⟨gv, 2, none⟩ (.int .i64 n3)).setCell ⟨gv, 3, none⟩ (.int .i64 n4)).setCell ⟨gv, 4, none⟩ (.bool true)) = w6 at *
        obtain ⟨z0, z1⟩ := cells2 HQ.out.z
        obtain ⟨x0, x1⟩ := cells2 HQ.out.k.x
        have fx0 := Lr.fz HQ.out.k.x 0
        have fx1 := Lr.fz HQ.out.k.x 1
        refine wp_region_held_drew (S := fun V => V.cell? ⟨gz, 0, none⟩ = some (.int .i64 0) ∧ V.cell? ⟨gz, 1, none⟩ = some (.int .i64 1)) (by kernel_rfl) ⟨z0, z1⟩ fun HL_ => ?_
        refine wpAnyH_take (i := 0) (v := .agg #[.int .i64 0, .int .i64 1]) rfl (by kernel_rfl) (by kernel_rfl) (by kernel_rfl) (fun _ _ _ h => h) (Or.inl ⟨by kernel_rfl, ?_⟩) HL_ ?_
        · rintro Wl ⟨s0, s1⟩
          go_simp
        simp only [Act.put, List.getElem_toArray, List.getElem_cons_succ, List.getElem_cons_zero, List.setIfInBounds_toArray, List.set_cons_zero, List.set_cons_succ]
        refine wpAnyH_take (i := 1) (v := .agg #[.int .i64 0, .int .i64 1]) rfl (by kernel_rfl) (by kernel_rfl) (by kernel_rfl) (fun _ _ _ h => h) (Or.inl ⟨by kernel_rfl, ?_⟩) HL_ ?_
        · rintro Wl ⟨s0, s1⟩
          go_simp
        simp only [Act.put, List.getElem_toArray, List.getElem_cons_succ, List.getElem_cons_zero, List.setIfInBounds_toArray, List.set_cons_zero, List.set_cons_succ]
        refine wpAnyH_ready (rs := [2]) (by kernel_rfl) (by simp) ?_
        refine AllReadyH.cons (o := _) rfl (fun K hK => ?_) AllReadyH.nil
        go_simp
        have hS : ((w6.setCell ⟨w.heap.size + 1 + 1 + 1, 0, none⟩ (.int .i64 0)).setCell ⟨w.heap.size + 1 + 1 + 1, 1, none⟩ (.int .i64 1)).drew.cell? ⟨gz, 0, none⟩ = some (.int .i64 0) ∧ ((w6.setCell ⟨w.heap.size + 1 + 1 + 1, 0, none⟩ (.int .i64 0)).setCell ⟨w.heap.size + 1 + 1 + 1, 1, none⟩ (.int .i64 1)).drew.cell? ⟨gz, 1, none⟩ = some (.int .i64 1) := ⟨set_far (set_far z0 (by have := HO1.out; have := HO2.out; omega)) (by have := HO1.out; have := HO2.out; omega), set_far (set_far z1 (by have := HO1.out; have := HO2.out; omega)) (by have := HO1.out; have := HO2.out; omega)⟩
        have LX : Lr (((w6.setCell ⟨w.heap.size + 1 + 1 + 1, 0, none⟩ (.int .i64 0)).setCell ⟨w.heap.size + 1 + 1 + 1, 1, none⟩ (.int .i64 1)).drew) (w.heap.size + 1 + 1 + 1) (0) (1) := HQ.out.k.x.put _ _
        have LY : Lr (((w6.setCell ⟨w.heap.size + 1 + 1 + 1, 0, none⟩ (.int .i64 0)).setCell ⟨w.heap.size + 1 + 1 + 1, 1, none⟩ (.int .i64 1)).drew) (w.heap.size + 1 + 1 + 1 + 1) 0 0 := HQ.out.k.y.far (by have := HO1.out; have := HO2.out; omega) _ _
        have HB7 : Hid (Below w.heap.size w (((w6.setCell ⟨w.heap.size + 1 + 1 + 1, 0, none⟩ (.int .i64 0)).setCell ⟨w.heap.size + 1 + 1 + 1, 1, none⟩ (.int .i64 1)).drew)) := Lib.hid ((HQ.out.bel.setCell (show w.heap.size ≤ w.heap.size + 1 + 1 + 1 by omega) _).setCell (show w.heap.size ≤ w.heap.size + 1 + 1 + 1 by omega) _).drew
        refine hK.out _ _ hS fun HL_ => ?_
        clear hK K x0 x1 fx0 fx1 HQ z0 z1
        generalize ((w6.setCell ⟨w.heap.size + 1 + 1 + 1, 0, none⟩ (.int .i64 0)).setCell ⟨w.heap.size + 1 + 1 + 1, 1, none⟩ (.int .i64 1)).drew = w7 at *
        obtain ⟨u0, u1⟩ := cells2 LY
        have fu0 := Lr.fz LY 0
        have fu1 := Lr.fz LY 1
        obtain ⟨z0, z1⟩ := hS
        refine wpAnyH_ready (rs := [3]) (by kernel_rfl) (by simp) ?_
        refine AllReadyH.cons (o := _) rfl (fun K hK => ?_) AllReadyH.nil
        go_simp
        refine hK.out _ _ ⟨set_far (set_far z0 (by have := HO1.out; have := HO2.out; omega)) (by have := HO1.out; have := HO2.out; omega), set_far (set_far z1 (by have := HO1.out; have := HO2.out; omega)) (by have := HO1.out; have := HO2.out; omega)⟩ fun HL_ => ?_
        clear hK K
        refine wpAnyH_take (i := 4) (v := .bool false) rfl (by kernel_rfl) (by kernel_rfl) (by kernel_rfl) (fun _ _ _ h => h) (Or.inl ⟨by kernel_rfl, ?_⟩) HL_ ?_
        · rintro Wl ⟨s0, s1⟩
          go_simp
        simp only [Act.put, List.getElem_toArray, List.getElem_cons_succ, List.getElem_cons_zero, List.setIfInBounds_toArray, List.set_cons_zero, List.set_cons_succ]
        refine wpAnyH_take (i := 5) (v := .int .i64 0) rfl (by kernel_rfl) (by kernel_rfl) (by kernel_rfl) (fun _ _ _ h => h) (Or.inl ⟨by kernel_rfl, ?_⟩) HL_ ?_
        · rintro Wl ⟨s0, s1⟩
          go_simp
        simp only [Act.put, List.getElem_toArray, List.getElem_cons_succ, List.getElem_cons_zero, List.setIfInBounds_toArray, List.set_cons_zero, List.set_cons_succ]
        refine wpAnyH_done (by kernel_rfl) ?_ _
        clear HL_ u0 u1 fu0 fu1 z0 z1
        have LX2 : Lr ((w7.setCell ⟨w.heap.size + 1 + 1 + 1 + 1, 0, none⟩ (.int .i64 0)).setCell ⟨w.heap.size + 1 + 1 + 1 + 1, 1, none⟩ (.int .i64 1)) (w.heap.size + 1 + 1 + 1) (0) (1) := LX.far (by have := HO1.out; have := HO2.out; omega) _ _
        have LY2 : Lr ((w7.setCell ⟨w.heap.size + 1 + 1 + 1 + 1, 0, none⟩ (.int .i64 0)).setCell ⟨w.heap.size + 1 + 1 + 1 + 1, 1, none⟩ (.int .i64 1)) (w.heap.size + 1 + 1 + 1 + 1) (0) (1) := LY.put _ _
        have HB : Hid (Below w.heap.size w ((w7.setCell ⟨w.heap.size + 1 + 1 + 1 + 1, 0, none⟩ (.int .i64 0)).setCell ⟨w.heap.size + 1 + 1 + 1 + 1, 1, none⟩ (.int .i64 1))) := Lib.hid ((HB7.out.setCell (show w.heap.size ≤ w.heap.size + 1 + 1 + 1 + 1 by omega) _).setCell (show w.heap.size ≤ w.heap.size + 1 + 1 + 1 + 1 by omega) _)
        clear LX LY HB7
        generalize ((w7.setCell ⟨w.heap.size + 1 + 1 + 1 + 1, 0, none⟩ (.int .i64 0)).setCell ⟨w.heap.size + 1 + 1 + 1 + 1, 1, none⟩ (.int .i64 1)) = w8 at *
        obtain ⟨x0, x1⟩ := cells2 LX2
        obtain ⟨u0, u1⟩ := cells2 LY2
        clear LX2 LY2
        go_wp2_with fail
        refine bodyPost_ret (v := .tuple #[.agg #[.int .i64 0, .int .i64 1], .agg #[.int .i64 0, .int .i64 1], .bool false, .int .i64 0]) (by simp [results, Try.results24, go_sem, x0, x1, u0, u1]) rfl ⟨rfl, HB.out⟩
theorem qclip_is (A : Option Addr) (C : Nat) (xs : List (Int × Int)) (lo hi a b c d e f : Int) (hlx : xs.length ≤ 9223372036854775807) (R : Cln) (E : Int) (hE : ClR xs lo hi a b c d e f R E) (w : World) (hl : SlS w A xs) :
    Calls Try.prog 24 #[.agg #[.slice A xs.length C, .int .i64 lo, .int .i64 hi], .agg #[.int .i64 a, .int .i64 b, .int .i64 c], .agg #[.int .i64 d, .int .i64 e, .int .i64 f]] w fun e_ w' => e_ = .returned (.tuple #[.agg #[.int .i64 R.a, .int .i64 R.b], .agg #[.int .i64 R.c, .int .i64 R.d], .bool R.h, .int .i64 E]) ∧ Below w.heap.size w w' := by
  rcases hE with ⟨h, rfl, rfl⟩ | ⟨hb, h1, h2, he, rfl, hR⟩
  · by_cases hb : Bok xs lo hi
    · by_cases h1 : V3 a b c
      · by_cases h2 : V3 d e f
        · by_cases he : a = d ∧ b = e ∧ c = f
          · exact qclip_4 A C xs lo hi a b c d e f hlx (by simp [hb]) (vv_iff.2 h1) (vv_iff.2 h2) he w hl
          · exact absurd ⟨hb, h1, h2, he⟩ h
        · exact qclip_3 A C xs lo hi a b c d e f hlx (by simp [hb]) (vv_iff.2 h1) (vv_no h2) w hl
      · exact qclip_2 A C xs lo hi a b c d e f hlx _ (by simp [hb]) (vv_no h1) rfl w hl
    · exact qclip_1 A C xs lo hi a b c d e f hlx _ _ (by simp [hb]) rfl rfl w hl
  · exact qclip_5 A C xs lo hi a b c d e f hlx (by simp [hb]) (vv_iff.2 h1) (vv_iff.2 h2) he R hR w hl
end Go.Proofs.Ytehlplejcaofoaa
