/-
  Plain tools, no function of the program: a loop over a function whose rounds are numbered. The k-th call of yield is told what the iterator knows of its arguments in the world at hand (boxes that a closure has caught, say); and the loop's relation may be carried through a loop within the iterator.
-/
import Derived.Test.YtgikpcoaennkgaaZGenP
import Derived.RangeFuncNested
import Derived.RangeFuncBound
import Derived.RangeFuncCalls
import Derived.RangeFuncLeaves
import Derived.RangeFuncBox
namespace Go.Proofs.Ytgikpcoaennkgaa
open Go.RowKit
open Go.RowKit (Below)
set_option linter.unusedVariables false

/-- What a round leaves alone: what lay below b, and the cells whose type is not one that rounds write. -/
structure Kz (b : Nat) (T : TypeId) (W W' : World) : Prop where
  bel : Below b W W'
  size : W.heap.size ≤ W'.heap.size
  same : ∀ (g : Nat) (cs : Array Value) (t : TypeId) (fz : Nat × Nat), t ≠ T → W.heap[g]? = some (Obj.cells cs t fz) → W'.heap[g]? = some (Obj.cells cs t fz)
section kz
variable {b : Nat} {T : TypeId} {A B C W W' : World}
theorem Kz.refl (W : World) : Kz b T W W := ⟨Below.refl _ _, Nat.le_refl _, fun _ _ _ _ _ h => h⟩
theorem Kz.trans (h : Kz b T A B) (k : Kz b T B C) : Kz b T A C := ⟨h.bel.trans k.bel, Nat.le_trans h.size k.size, fun g cs t fz ht hg => k.same g cs t fz ht (h.same g cs t fz ht hg)⟩
theorem Kz.put {l : Nat} {o : Obj} (o' : Obj) (hb : b ≤ l) (hl : W.heap[l]? = some o) (ho : o.isCells = false) : Kz b T W (W.putObj l o') :=
  ⟨(Below.refl b W).grown (grownBy_putObj' W l o') (by have := (Array.getElem?_eq_some_iff.1 hl).1; omega) (fun k e => by cases e; omega), by have := (grownBy_putObj' W l o').size; exact this, fun g cs t fz _ hg => by
    have hne : g ≠ l := by rintro rfl; rw [hl] at hg; injection hg with hg; subst hg; cases ho
    rw [World.putObj_heap_other hne]; exact hg⟩
theorem Kz.of (h : Below W.heap.size W W') (hb : b ≤ W.heap.size) : Kz b T W W' :=
  ⟨h.mono hb, h.size, fun g cs t fz _ hg => by rw [h.block g (Array.getElem?_eq_some_iff.1 hg).1]; exact hg⟩
theorem Kz.alloc (o : Obj) (hb : b ≤ W.heap.size) : Kz b T W (W.alloc o) := Kz.of ((Below.refl _ _).alloc (Nat.le_refl _) _) hb
theorem Kz.set {g : Nat} {cs : Array Value} {fz : Nat × Nat} (i : Nat) (v : Value) (hb : b ≤ g) (hg : W.heap[g]? = some (Obj.cells cs T fz)) : Kz b T W (W.setCell ⟨g, i, none⟩ v) :=
  ⟨(Below.refl b W).setCell hb _, by simp, fun j cs' t fz' ht hj => by
    rw [Below.heap_setCell W ⟨g, i, none⟩ v j (by rintro rfl; rw [hg] at hj; injection hj with hj; injection hj with _ e _; exact ht e.symm)]; exact hj⟩
end kz

theorem Kz.row {b : Nat} {T : TypeId} {A W W' : World} {row : Option Nat} (h : Kz b T A W) (hb : b ≤ A.heap.size) (hg : W.grownBy W' row) (hr : ∀ r, row = some r → b ≤ r ∧ ∃ o : Obj, W.heap[r]? = some o ∧ o.isCells = false) : Kz b T A W' :=
  h.trans ⟨(Below.refl b W).grown hg (Nat.le_trans hb h.size) (fun k e => (hr k e).1), hg.size, fun g cs t fz _ hk => by
    rw [hg.block g (Array.getElem?_eq_some_iff.1 hk).1 (fun e => by obtain ⟨o, ho, hc⟩ := (hr g e.symm).2; rw [hk] at ho; cases ho; cases hc)]; exact hk⟩

/-- What the iterator gf answers to whatever loop ranges over it: N rounds, the k-th with arguments of which A k speaks. -/
def SeqN (n : Nat) (P : Program) (gf : Nat) (lb : Array Value) (N : Nat) (A : Nat → Array Value → World → Prop) (Kp : World → World → Prop) (w0 : World) : Prop :=
  ∀ (l : Nat) (J Jx : Nat → World → Prop) (W : World), Below w0.heap.size w0 W → OwnFrom W.heap.size J → OwnFrom W.heap.size Jx →
    (∀ k args W1, k < N → J k W1 → A k args W1 → YieldAt Fence.wide n P l args W1 fun e W' =>
      (e = .returned (.bool true) ∧ J (k + 1) W' ∧ Kp W1 W' ∧ KeepsFrom W.heap.size W1 W') ∨ (e = .returned (.bool false) ∧ Jx (k + 1) W' ∧ KeepsFrom W.heap.size W1 W')) →
    J 0 W → CallsIn Fence.wide n P gf (#[.func (.yield l) #[] #[]] ++ lb) W fun e W' => (∃ v, e = .returned v) ∧ (J N W' ∨ ∃ k, k ≤ N ∧ Jx k W')

/-- How a round's body is left. -/
def endN (B : Nat) (Kp : World → World → Prop) (I Ix : Nat → World → Prop) (k : Nat) (W : World) : Exit → Act → World → Prop
  | .normal, _, W' => KeepsFrom B W W' ∧ Kp W W' ∧ I k W'
  | .ret, _, W' => KeepsFrom B W W' ∧ Ix k W'
  | _, _, _ => False

theorem round_room {n m l : Nat} {P : Program} {f : FuncId} {tmps : Array Value} {assign body : Code} {w : World} {R : Ending → World → Prop} (h : RoundIn Fence.wide n P l f tmps assign body w R) : RoundIn Fence.wide m P l f tmps assign body w R :=
  ⟨h.1, fun c cs _ => h.2 c cs (fun d e => by simp [Fence.wide] at e)⟩

/-- The loop: the rounds' relation I, and Ix behind a round that has left the function. -/
theorem range_n {n : Nat} {P : Program} {g : Operand} {ps : Array Tmp} {assign body : Code} {Q : Exit → Act → World → Prop} {a : Act} {w w0 : World} {gf : Nat} {lb : Array Value} {N : Nat} {A : Nat → Array Value → World → Prop} {Kp : World → World → Prop}
    (hg : a.eval g = .func (.func gf) #[] lb) (eg : ∀ args w, (callFunc gf args).run P w = .ok (.enter gf args) w) (hseq : SeqN (n - 1) P gf lb N A Kp w0) (hb0 : Below w0.heap.size w0 w)
    (hps : ∀ k args W, A k args W → args.size = ps.size) (hKt : ∀ {X Y Z : World}, Kp X Y → Kp Y Z → Kp X Z)
    (hKb : ∀ (W : World) (l : Nat) (o o' : Obj), w.heap.size ≤ l → W.heap[l]? = some o → o.isCells = false → Kp W (W.putObj l o'))
    (I Ix : Nat → World → Prop) (hI : OwnFrom w.heap.size I) (hIx : OwnFrom w.heap.size Ix) (h0 : I 0 w)
    (hround : ∀ (l k : Nat) (args : Array Value) (W : World), w.heap.size ≤ l → k < N → I k W → A k args W →
      assign.wpIn (Fence.wide.inRound l) (n - 1) P (Exit.then (fun a' Wa => KeepsFrom w.heap.size W Wa ∧ Kp W Wa ∧
          ∀ o Wb, Wa.heap[l]? = some o → o.isCells = false → Wb.heap[l]?.isSome → Wa.grownBy Wb (some l) → (∀ i, i ≠ l → Wb.heap[i]? = Wa.heap[i]?) →
            body.wpIn (Fence.wide.inRound l) (n - 1) P (endN w.heap.size Kp I Ix (k + 1) Wb) a' Wb) (fun _ _ _ => False)) { tmps := (ps.zip args).foldl (fun t (p, v) => t.setIfInBounds p v) a.tmps, defers := [] } W)
    (hdone : ∀ (D : Nat) (W : World), w.heap.size ≤ D → I N W → W.heap[D]? = some (.deferred (some [])) → Q .normal { a with defers := { target := .collected D, args := #[] } :: a.defers } W)
    (hstop : ∀ (D k : Nat) (W : World), w.heap.size ≤ D → k ≤ N → Ix k W → W.heap[D]? = some (.deferred (some [])) → Code.ret.wpIn Fence.wide n P Q { a with defers := { target := .collected D, args := #[] } :: a.defers } W) :
    (Code.rangeFunc g ps assign body).wpIn Fence.wide n P Q a w := by
  refine wpIn_rangeFunc fun fn hfn => ?_
  -- the loop's two blocks: the mark's, and its record
  let rec_ : LoopState → Option Code → Loop := fun st pe => { state := st, pending := pe, fn := fn, tmps := a.tmps, params := ps, assign := assign, body := body, defers := w.heap.size }
  let w1 : World := (w.alloc (.deferred (some []))).alloc (.loop (rec_ .ready none))
  have sz : w1.heap.size = w.heap.size + 2 := by show (((w.heap.push _).push _)).size = _; simp
  have r1 : w1.heap[w.heap.size + 1]? = some (.loop (rec_ .ready none)) := by
    have h := World.alloc_heap_new (w.alloc (.deferred (some []))) (.loop (rec_ .ready none)); rwa [World.size_alloc] at h
  have d1 : w1.heap[w.heap.size]? = some (.deferred (some [])) := (Below.heap_alloc _ _ _ (by simp)).trans (World.alloc_heap_new w _)
  have b1 : Below w0.heap.size w0 w1 := hb0.trans ((((Below.refl _ w).alloc (Nat.le_refl _) _).alloc (by simp) _).mono hb0.size)
  -- what turns no cell of those two blocks leaves them
  have far : ∀ {X Y : World} {row : Option Nat} {j : Nat} {o : Obj}, j < w1.heap.size → X.heap[j]? = some o → X.grownBy Y row → (∀ r, row = some r → w1.heap.size ≤ r ∧ ∃ o : Obj, X.heap[r]? = some o ∧ o.isCells = false) → Y.heap[j]? = some o :=
    fun hj ho hg hr => (hg.block _ (Array.getElem?_eq_some_iff.1 ho).1 (fun e => by have := (hr _ e.symm).1; omega)).trans ho
  have low : ∀ {X : World} {row : Option Nat}, (∀ r, row = some r → w1.heap.size ≤ r ∧ ∃ o : Obj, X.heap[r]? = some o ∧ o.isCells = false) → (∀ r, row = some r → w.heap.size ≤ r ∧ ∃ o : Obj, X.heap[r]? = some o ∧ o.isCells = false) :=
    fun hr r e => ⟨by have := (hr r e).1; omega, (hr r e).2⟩
  refine ⟨w.heap.size + 1, [{ target := .collected w.heap.size, args := #[] }], w1, { target := .fn (.func gf) lb, args := #[.func (.yield (w.heap.size + 1)) #[] #[]] }, w1, gf,
    #[.func (.yield (w.heap.size + 1)) #[] #[]] ++ lb, w1, run_enterLoop_outer _ _ _ _ _, ?_, fun _ _ => trivial, ?_, (fun h => by simp [Fence.wide] at h), ?_⟩
  · simp only [resolve, hg]; simp [go_sem]
  · simp [invoke, go_sem, eg]
  refine (hseq (w.heap.size + 1)
    (fun k W => I k W ∧ W.heap[w.heap.size + 1]? = some (.loop (rec_ .ready none)) ∧ W.heap[w.heap.size]? = some (.deferred (some [])))
    (fun k W => Ix k W ∧ W.heap[w.heap.size + 1]? = some (.loop (rec_ .done (some .ret))) ∧ W.heap[w.heap.size]? = some (.deferred (some [])))
    w1 b1 (fun s X Y row h hg hr => ⟨hI s X Y row h.1 hg (low hr), far (by omega) h.2.1 hg hr, far (by omega) h.2.2 hg hr⟩)
    (fun s X Y row h hg hr => ⟨hIx s X Y row h.1 hg (low hr), far (by omega) h.2.1 hg hr, far (by omega) h.2.2 hg hr⟩)
    ?_ ⟨hI.alloc _ (hI.alloc _ h0), r1, d1⟩).mono ?_
  · -- a round
    rintro k args W hk ⟨hi, hl, hd⟩ hA
    refine ⟨fn, _, assign, body, run_yield hl (hps k args W hA), roundIn_of_wpIn hfn ?_⟩
    refine wpIn_mono (hround _ k args W (Nat.le_succ _) hk hi hA) ?_
    rintro e a' Wa h
    cases e with
    | normal =>
      obtain ⟨hkf, hkp, hbody⟩ := h
      have la : Wa.heap[w.heap.size + 1]? = some (.loop (rec_ .ready none)) := hkf.same _ _ (Nat.le_succ _) hl rfl
      have da : Wa.heap[w.heap.size]? = some (.deferred (some [])) := hkf.same _ _ (Nat.le_refl _) hd rfl
      have lt : w.heap.size + 1 < Wa.heap.size := (Array.getElem?_eq_some_iff.1 la).1
      have lb' : (Wa.putObj (w.heap.size + 1) (.loop (rec_ .busy none))).heap[w.heap.size + 1]? = some (.loop (rec_ .busy none)) := World.putObj_heap_same lt
      have db : (Wa.putObj (w.heap.size + 1) (.loop (rec_ .busy none))).heap[w.heap.size]? = some (.deferred (some [])) := (World.putObj_heap_other (by omega)).trans da
      refine ⟨_, run_beginRound la rfl, wpIn_mono (hbody _ _ la rfl (by show (Wa.putObj (w.heap.size + 1) (.loop (rec_ .busy none))).heap[w.heap.size + 1]?.isSome; rw [lb']; rfl) (grownBy_putObj' _ _ _) (fun i hi => World.putObj_heap_other hi)) ?_⟩
      -- at the round's end
      have fin : ∀ (jump : Option Code) (X : World), KeepsFrom w.heap.size (Wa.putObj (w.heap.size + 1) (.loop (rec_ .busy none))) X →
          ∃ Y, (Instr.endRound (w.heap.size + 1) jump).run P X = .ok (.bool jump.isNone) Y ∧ Y = X.putObj (w.heap.size + 1) (.loop (rec_ (if jump.isNone then .ready else .done) jump)) ∧
            X.heap[w.heap.size + 1]? = some (.loop (rec_ .busy none)) ∧ Y.heap[w.heap.size + 1]? = some (.loop (rec_ (if jump.isNone then .ready else .done) jump)) ∧ Y.heap[w.heap.size]? = some (.deferred (some [])) := fun jump X hX => by
        have lx := hX.same _ _ (Nat.le_succ _) lb' rfl
        exact ⟨_, run_endRound jump lx, rfl, lx, World.putObj_heap_same (Array.getElem?_eq_some_iff.1 lx).1, (World.putObj_heap_other (by omega)).trans (hX.same _ _ (Nat.le_refl _) db rfl)⟩
      have kfw : KeepsFrom w1.heap.size W Wa := ⟨hkf.size, fun k o h => hkf.same k o (by omega)⟩
      have kfp : ∀ (X : World) (o : Obj), KeepsFrom w1.heap.size X (X.putObj (w.heap.size + 1) o) := fun X o => KeepsFrom.of_grownBy (grownBy_putObj' X _ o) (fun j e => by cases e; omega)
      have kfx : ∀ {X Y : World}, KeepsFrom w.heap.size X Y → KeepsFrom w1.heap.size X Y := fun h => ⟨h.size, fun k o hk => h.same k o (by omega)⟩
      have kb := hKb Wa _ _ (.loop (rec_ .busy none)) (Nat.le_succ _) la rfl
      rintro e2 a2 X h2
      cases e2 with
      | normal =>
        obtain ⟨hX, kX, iX⟩ := h2
        obtain ⟨Y, hr, rfl, lx, ly, dy⟩ := fin none X hX
        exact ⟨_, _, hr, .inl ⟨rfl, ⟨hI.putObj _ iX (Nat.le_succ _) lx rfl, ly, dy⟩, hKt hkp (hKt kb (hKt kX (hKb X _ _ _ (Nat.le_succ _) lx rfl))), kfw.trans ((kfp _ _).trans ((kfx hX).trans (kfp _ _)))⟩⟩
      | ret =>
        obtain ⟨hX, iX⟩ := h2
        obtain ⟨Y, hr, rfl, lx, ly, dy⟩ := fin (some .ret) X hX
        exact ⟨_, _, hr, .inr ⟨rfl, ⟨hIx.putObj _ iX (Nat.le_succ _) lx rfl, ly, dy⟩, kfw.trans ((kfp _ _).trans ((kfx hX).trans (kfp _ _)))⟩⟩
      | exit id => exact h2.elim
      | goto t => exact h2.elim
      | panic ch => exact h2.elim
      | outgrown => exact h2.elim
    | exit id => exact h.elim
    | goto t => exact h.elim
    | ret => exact h.elim
    | panic ch => exact h.elim
    | outgrown => exact h.elim
  · -- behind the iterator
    rintro e W2 ⟨⟨v, rfl⟩, (⟨hi, hl, hd⟩ | ⟨k, hk, hi, hl, hd⟩)⟩
    · exact ⟨none, _, run_endLoop hl (by simp [rec_]), hdone _ _ (Nat.le_refl _) (hI.putObj _ hi (Nat.le_succ _) hl rfl) ((World.putObj_heap_other (by omega)).trans hd)⟩
    · exact ⟨some .ret, _, run_endLoop hl (by simp [rec_]), hstop _ k _ (Nat.le_refl _) hk (hIx.putObj _ hi (Nat.le_succ _) hl rfl) ((World.putObj_heap_other (by omega)).trans hd)⟩
end Go.Proofs.Ytgikpcoaennkgaa
