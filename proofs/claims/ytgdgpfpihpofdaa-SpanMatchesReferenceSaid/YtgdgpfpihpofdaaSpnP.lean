/-
  Package span: combine, its invariant.
-/
import Derived.Test.YtgdgpfpihpofdaaSpnO
import Derived.Test.YtgdgpfpihpofdaaGenC
namespace Go.Proofs.Ytgdgpfpihpofdaa
open Go.RowKit Go.Sort Go.Shelf
open Go.RowKit (Below)
set_option linter.unusedVariables false

/-- A step that turns no block of cells. -/
def Aside (W : World) (row : Option Nat) : Prop := ∀ r, row = some r → ∃ o : Obj, W.heap[r]? = some o ∧ o.isCells = false
theorem aside_ne {W : World} {row : Option Nat} (hr : Aside W row) {b : Nat} {cs : Array Value} {t : TypeId} {fz : Nat × Nat} (hc : W.heap[b]? = some (.cells cs t fz)) : some b ≠ row := by
  intro e
  obtain ⟨o, ho, hn⟩ := hr b e.symm
  rw [hc] at ho
  injection ho with ho
  subst ho
  cases hn
theorem cell_block {W : World} {b o : Nat} {v : Value} (h : W.cell? ⟨b, o, none⟩ = some v) : ∃ cs t fz, W.heap[b]? = some (.cells cs t fz) := by
  unfold World.cell? at h
  cases hb : W.heap[b]? with
  | none => rw [hb] at h; cases h
  | some o' =>
    rw [hb] at h
    cases o' with
    | cells cs t fz => exact ⟨cs, t, fz, rfl⟩
    | _ => simp at h
theorem same_block {W W' : World} {row : Option Nat} (hg : W.grownBy W' row) (hr : Aside W row) {b o : Nat} {v : Value} (h : W.cell? ⟨b, o, none⟩ = some v) : W'.heap[b]? = W.heap[b]? := by
  obtain ⟨cs, t, fz, hb⟩ := cell_block h
  exact hg.block b (Array.getElem?_eq_some_iff.1 hb).1 (aside_ne hr hb)
theorem Wk.aside {W W' : World} {row : Option Nat} {p : Nat} {ys : List Spn} {n0 : Nat} (h : Wk n0 W p ys) (hg : W.grownBy W' row) (hr : Aside W row) : Wk n0 W' p ys := by
  obtain ⟨A, C, q, hlo, hb, hs, hc, hq⟩ := h
  refine ⟨A, C, q, hlo, hb.kept hg (aside_ne hr hb), fun k hk => ?_, hc, hq⟩
  obtain ⟨b, o, e, h1, h2⟩ := hs k hk
  have e1 := same_block hg hr h1
  exact ⟨b, o, e, by rw [World.cell?_of_block (a := ⟨b, o + k * 2, none⟩) e1]; exact h1, by rw [World.cell?_of_block (a := ⟨b, o + k * 2 + 1, none⟩) e1]; exact h2⟩
theorem own_aside {W W' : World} {row : Option Nat} {base : Nat} {e : TypeId} {size : Nat} {v : Value} {n : Nat} {xs : List Value} (h : W.ownsRow base e size v n xs) (hg : W.grownBy W' row) (hr : Aside W row) : W'.ownsRow base e size v n xs := by
  refine ⟨h.1, h.2.imp id ?_⟩
  rintro ⟨g, cap, cur, rfl, hb, hgg, hn, hm, hs, ht⟩
  exact ⟨g, cap, cur, rfl, hb, by rw [hg.block g (Array.getElem?_eq_some_iff.1 hgg).1 (aside_ne hr hgg)]; exact hgg, hn, hm, hs, ht⟩
theorem Lc.aside {W W' : World} {row : Option Nat} {g : Nat} {x y : Int} (h : Lc W g x y) (hg : W.grownBy W' row) (hr : Aside W row) : Lc W' g x y := by
  have e := same_block hg hr h.1.1
  refine ⟨⟨?_, ?_⟩, ?_, ?_⟩
  · rw [World.cell?_of_block (a := ⟨g, 0, none⟩) e]; exact h.1.1
  · rw [World.cell?_of_block (a := ⟨g, 1, none⟩) e]; exact h.1.2
  · rw [World.frozen?_of_block (a := ⟨g, 0, none⟩) e]; exact h.2.1
  · rw [World.frozen?_of_block (a := ⟨g, 1, none⟩) e]; exact h.2.2

/-- What stays: the function values in their boxes. -/
structure Fx (p b0 : Nat) (tk : Value) (W : World) : Prop where
  tk : Boxed W b0 42 tk
  fa : Boxed W (p + 2) 35 (.func (.func 35) #[.pointer (some ⟨p, 0, none⟩)] #[])
  fb : Boxed W (p + 3) 35 (.func (.func 35) #[.pointer (some ⟨p + 1, 0, none⟩)] #[])
theorem Fx.keep {p b0 : Nat} {tk : Value} {W W' : World} {row : Option Nat} (h : Fx p b0 tk W) (hg : W.grownBy W' row) (h0 : some b0 ≠ row) (h2 : some (p + 2) ≠ row) (h3 : some (p + 3) ≠ row) : Fx p b0 tk W' :=
  ⟨h.tk.kept hg h0, h.fa.kept hg h2, h.fb.kept hg h3⟩
def Good (X : List Int) (pre : List Spn) : Prop := pre = prs X pre.length
/-- How far the walks have gone. -/
structure Wy (xs ys : List Spn) (X : List Int) (n0 p : Nat) (pre : List Spn) (W : World) : Prop where
  wa : ∃ r, Wk n0 W p r ∧ (Good X pre → ∀ m, gd X pre.length ≤ m → hasS r m = hasS xs m)
  wb : ∃ r, Wk n0 W (p + 1) r ∧ (Good X pre → ∀ m, gd X pre.length ≤ m → hasS r m = hasS ys m)
/-- What has been built. -/
def Bt (op : Bool → Bool → Bool) (xs ys : List Spn) (X : List Int) (n0 p : Nat) (pre : List Spn) (W : World) : Prop :=
  ∃ v zs, Boxed W (p + 4) 22 v ∧ W.ownsRow n0 39 2 v zs.length (flatV zs) ∧ zs.length ≤ pre.length ∧ (Good X pre → X ≠ [] → Bd (tkS op xs ys) zs (gd X pre.length))
structure CI (op : Bool → Bool → Bool) (xs ys : List Spn) (X : List Int) (n0 p b0 : Nat) (tk : Value) (w0 : World) (pre : List Spn) (W : World) : Prop where
  fx : Fx p b0 tk W
  wy : Wy xs ys X n0 p pre W
  bt : Bt op xs ys X n0 p pre W
  bl : Below w0.heap.size w0 W
section
variable {op : Bool → Bool → Bool} {xs ys : List Spn} {X : List Int} {n0 p b0 : Nat} {tk : Value} {w0 : World} {pre : List Spn} {W W' : World} {row : Option Nat}
theorem Fx.aside (h : Fx p b0 tk W) (hg : W.grownBy W' row) (hr : Aside W row) : Fx p b0 tk W' := h.keep hg (aside_ne hr h.tk) (aside_ne hr h.fa) (aside_ne hr h.fb)
theorem Wy.aside (h : Wy xs ys X n0 p pre W) (hg : W.grownBy W' row) (hr : Aside W row) : Wy xs ys X n0 p pre W' :=
  ⟨let ⟨r, a, b⟩ := h.wa; ⟨r, a.aside hg hr, b⟩, let ⟨r, a, b⟩ := h.wb; ⟨r, a.aside hg hr, b⟩⟩
theorem Bt.aside (h : Bt op xs ys X n0 p pre W) (hg : W.grownBy W' row) (hr : Aside W row) : Bt op xs ys X n0 p pre W' :=
  let ⟨v, zs, a, b, c, d⟩ := h; ⟨v, zs, a.kept hg (aside_ne hr a), own_aside b hg hr, c, d⟩
theorem CI.aside (h : CI op xs ys X n0 p b0 tk w0 pre W) (hg : W.grownBy W' row) (hr : Aside W row) (hB : ∀ r, row = some r → w0.heap.size ≤ r) : CI op xs ys X n0 p b0 tk w0 pre W' :=
  ⟨h.fx.aside hg hr, h.wy.aside hg hr, h.bt.aside hg hr, h.bl.grown hg h.bl.size hB⟩
end
theorem wk_start {w : World} {W : World} {A : Option Addr} {C p : Nat} {xs : List Spn} (hx : Ls w A C xs) (hb : Below w.heap.size w W) (hc : chk (-1) xs = true) (hbx : Boxed W p 45 (.slice A xs.length C)) : Wk w.heap.size W p xs :=
  ⟨A, C, -1, fun b o e hne => by
    have h0 : 0 < xs.length := by cases xs with | nil => exact absurd rfl hne | cons _ _ => simp
    obtain ⟨b', o', e', h1, _⟩ := hx.sl 0 h0
    rw [e] at e'
    injection e' with e'
    injection e' with e1
    subst e1
    exact block_lt h1, hbx, (hx.below hb).sl, hx.cap, hc⟩
/-- The list that is built lies elsewhere than what is walked over. -/
theorem wk_row {n0 : Nat} {W W' : World} {p n : Nat} {ys : List Spn} {v : Value} {xs : List Value} (h : Wk n0 W p ys) (hr : W.ownsRow n0 39 2 v n xs) (hg : W.grownBy W' v.ownBlock) : Wk n0 W' p ys := by
  obtain ⟨A, C, q, hlo, hb, hs, hc, hq⟩ := h
  refine ⟨A, C, q, hlo, hb.kept hg (hb.not_row (by decide) hr), fun k hk => ?_, hc, hq⟩
  obtain ⟨b, o, e, h1, h2⟩ := hs k hk
  have hy : ys ≠ [] := by rintro rfl; simp at hk
  have hl := hlo b o e hy
  have e1 : W'.heap[b]? = W.heap[b]? := hg.block b (block_lt h1) fun e => by have := (hr.lt b e.symm).1; omega
  exact ⟨b, o, e, by rw [World.cell?_of_block (a := ⟨b, o + k * 2, none⟩) e1]; exact h1, by rw [World.cell?_of_block (a := ⟨b, o + k * 2 + 1, none⟩) e1]; exact h2⟩
/-- A box that is written, and what is walked over. -/
theorem wk_box {n0 : Nat} {W W' : World} {p q : Nat} {ys : List Spn} (h : Wk n0 W p ys) (hn : n0 ≤ q) (hpq : p ≠ q) (hg : W.grownBy W' (some q)) : Wk n0 W' p ys := by
  obtain ⟨A, C, q', hlo, hb, hs, hc, hq⟩ := h
  refine ⟨A, C, q', hlo, hb.kept hg (by simpa using hpq), slS_grown hs hg fun b o e hy => ?_, hc, hq⟩
  have hl := hlo b o e hy
  omega
theorem boxes7 (W : World) (t0 t1 t2 t3 t4 t5 t6 : TypeId) (v0 v1 v2 v3 v4 v5 v6 : Value) {V : World}
    (hV : ((((((W.alloc (.cells #[v0] t0)).alloc (.cells #[v1] t1)).alloc (.cells #[v2] t2)).alloc (.cells #[v3] t3)).alloc (.cells #[v4] t4)).alloc (.cells #[v5] t5)).alloc (.cells #[v6] t6) = V) :
    V.heap.size = W.heap.size + 7 ∧ Below W.heap.size W V ∧ Boxed V W.heap.size t0 v0 ∧ Boxed V (W.heap.size + 1) t1 v1 ∧ Boxed V (W.heap.size + 2) t2 v2 ∧ Boxed V (W.heap.size + 3) t3 v3 ∧ Boxed V (W.heap.size + 4) t4 v4 ∧ Boxed V (W.heap.size + 5) t5 v5 ∧ Boxed V (W.heap.size + 6) t6 v6 := by
  subst hV
  have nb : ∀ (U : World) (k : Nat) (t : TypeId) (v : Value), U.heap.size = k → Boxed (U.alloc (.cells #[v] t)) k t v := fun U k t v h => by subst h; exact Boxed.new U t v
  refine ⟨by simp, ?_, ?_, ?_, ?_, ?_, ?_, ?_, ?_⟩
  · exact (((((((Below.refl _ W).alloc (Nat.le_refl _) _).alloc (by simp) _).alloc (by simp; omega) _).alloc (by simp; omega) _).alloc (by simp; omega) _).alloc (by simp; omega) _).alloc (by simp; omega) _
  · exact ((((((nb _ _ _ _ rfl).alloc _).alloc _).alloc _).alloc _).alloc _).alloc _
  · exact (((((nb _ _ _ _ (by simp)).alloc _).alloc _).alloc _).alloc _).alloc _
  · exact ((((nb _ _ _ _ (by simp)).alloc _).alloc _).alloc _).alloc _
  · exact (((nb _ _ _ _ (by simp)).alloc _).alloc _).alloc _
  · exact ((nb _ _ _ _ (by simp)).alloc _).alloc _
  · exact (nb _ _ _ _ (by simp)).alloc _
  · exact nb _ _ _ _ (by simp)
theorem aside_none (W : World) : Aside W none := fun r e => by cases e

theorem pieces_stops (n : Nat) (hn : 1 ≤ n) (ba bb : Nat) (A B : Option Addr) (C D : Nat) (xs ys : List Spn) (hl : xs.length ≤ 1000) (hl2 : ys.length ≤ 1000) (w : World)
    (ha : w.cell? ⟨ba, 0, none⟩ = some (.slice A xs.length C)) (hb : w.cell? ⟨bb, 0, none⟩ = some (.slice B ys.length D)) (hx : Ls w A C xs) (hy : Ls w B D ys) :
    SeqStopsK Fence.wide n Try.prog 40 #[.pointer (some ⟨ba, 0, none⟩), .pointer (some ⟨bb, 0, none⟩)] encP Kp (fun ps => ps = prs (allE xs ys) ((allE xs ys).length - 1)) (fun _ => True) ((allE xs ys).length - 1) w :=
  fun l J Jx W hW hJ _ hY h0 => pieces1_in n hn l ba bb A B C D xs ys hl hl2 _ rfl J Jx W hJ hY (by rw [hW.cell (block_lt ha)]; exact ha) (by rw [hW.cell (block_lt hb)]; exact hb) (hx.below hW) (hy.below hW) h0
end Go.Proofs.Ytgdgpfpihpofdaa
