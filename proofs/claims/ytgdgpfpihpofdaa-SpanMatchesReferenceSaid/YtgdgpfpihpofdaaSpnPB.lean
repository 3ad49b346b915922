/-
  Package span: combine, the state within a round.
-/
import Derived.Test.YtgdgpfpihpofdaaSpnP
namespace Go.Proofs.Ytgdgpfpihpofdaa
open Go.RowKit Go.Sort Go.Shelf
open Go.RowKit (Below)
set_option linter.unusedVariables false

theorem Lc.keep {W W' : World} {row : Option Nat} {g : Nat} {x y : Int} (h : Lc W g x y) (hg : W.grownBy W' row) (hr : some g ≠ row) : Lc W' g x y := by
  have e := hg.block g h.lt hr
  refine ⟨⟨?_, ?_⟩, ?_, ?_⟩
  · rw [World.cell?_of_block (a := ⟨g, 0, none⟩) e]; exact h.1.1
  · rw [World.cell?_of_block (a := ⟨g, 1, none⟩) e]; exact h.1.2
  · rw [World.frozen?_of_block (a := ⟨g, 0, none⟩) e]; exact h.2.1
  · rw [World.frozen?_of_block (a := ⟨g, 1, none⟩) e]; exact h.2.2
theorem own_keep {W W' : World} {row : Option Nat} {base : Nat} {e : TypeId} {size : Nat} {v : Value} {n : Nat} {xs : List Value} (h : W.ownsRow base e size v n xs) (hg : W.grownBy W' row) (hr : row = none ∨ row ≠ v.ownBlock) : W'.ownsRow base e size v n xs := by
  refine ⟨h.1, h.2.imp id ?_⟩
  rintro ⟨g, cap, cur, rfl, hb, hgg, hn, hm, hs, ht⟩
  refine ⟨g, cap, cur, rfl, hb, ?_, hn, hm, hs, ht⟩
  rw [hg.block g (Array.getElem?_eq_some_iff.1 hgg).1 fun e => ?_]
  · exact hgg
  · rcases hr with hr | hr
    · rw [hr] at e; cases e
    · exact hr e.symm
theorem Wk.box {n0 : Nat} {W : World} {p : Nat} {ys : List Spn} (h : Wk n0 W p ys) : ∃ v, Boxed W p 45 v := let ⟨_, _, _, _, hb, _⟩ := h; ⟨_, hb⟩
theorem Wk.ne {n0 : Nat} {W : World} {p g : Nat} {ys : List Spn} {x y : Int} (h : Wk n0 W p ys) (hl : Lc W g x y) : g ≠ p := let ⟨_, _, _, _, hb, _⟩ := h; boxed_ne hb hl.1.1
theorem grown_drew (W : World) : W.grownBy W.drew none := ⟨rfl, rfl, rfl, Nat.le_refl _, fun _ _ _ => rfl⟩

/-- Within a round. -/
structure BS (n0 p b0 : Nat) (tk : Value) (w0 : World) (Bx : Nat) (c h : Int) (ra rb zs : List Spn) (v : Value) (Ws W : World) : Prop where
  fx : Fx p b0 tk W
  lc : Lc W Bx c h
  wa : Wk n0 W p ra
  wb : Wk n0 W (p + 1) rb
  bx : Boxed W (p + 4) 22 v
  ow : W.ownsRow n0 39 2 v zs.length (flatV zs)
  bl : Below w0.heap.size w0 W
  ko : KeepsOthers Ws W
  kp : Kp Ws W
section
variable {n0 p b0 : Nat} {tk : Value} {w0 : World} {Bx : Nat} {c h : Int} {ra rb zs r : List Spn} {v : Value} {Ws W W' : World}
theorem BS.hasA (s : BS n0 p b0 tk w0 Bx c h ra rb zs v Ws W) (hn : n0 ≤ p) (hb : b0 < p) (hw : w0.heap.size ≤ p) (hg : W.grownBy W' (some p)) (hr : Wk n0 W' p r) : BS n0 p b0 tk w0 Bx c h r rb zs v Ws W' := by
  obtain ⟨v', hbox⟩ := s.wa.box
  refine ⟨s.fx.keep hg (by simp; omega) (by simp) (by simp), s.lc.keep hg (by simpa using s.wa.ne s.lc), hr, wk_box s.wb hn (by omega) hg, s.bx.kept hg (by simp), own_keep s.ow hg (.inr (hbox.not_row (by decide) s.ow)),
    s.bl.grown hg s.bl.size (fun k e => by injection e with e; omega), s.ko.trans (KeepsOthers.of_grownBy hg fun j o e hj => ?_), s.kp.trans (Kp.grown hg fun g e => ?_)⟩
  · injection e with e
    subst e
    rw [show W.heap[p]? = _ from hbox] at hj
    injection hj with hj
    subst hj
    rfl
  · injection e with e
    subst e
    exact ⟨_, hbox, fun cs fz e => by injection e with _ e; exact absurd e (by decide)⟩
theorem BS.hasB (s : BS n0 p b0 tk w0 Bx c h ra rb zs v Ws W) (hn : n0 ≤ p) (hb : b0 < p) (hw : w0.heap.size ≤ p) (hg : W.grownBy W' (some (p + 1))) (hr : Wk n0 W' (p + 1) r) : BS n0 p b0 tk w0 Bx c h ra r zs v Ws W' := by
  obtain ⟨v', hbox⟩ := s.wb.box
  refine ⟨s.fx.keep hg (by simp; omega) (by simp) (by simp), s.lc.keep hg (by simpa using s.wb.ne s.lc), wk_box s.wa (by omega) (by omega) hg, hr, s.bx.kept hg (by simp), own_keep s.ow hg (.inr (hbox.not_row (by decide) s.ow)),
    s.bl.grown hg s.bl.size (fun k e => by injection e with e; omega), s.ko.trans (KeepsOthers.of_grownBy hg fun j o e hj => ?_), s.kp.trans (Kp.grown hg fun g e => ?_)⟩
  · injection e with e
    subst e
    rw [show W.heap[p + 1]? = _ from hbox] at hj
    injection hj with hj
    subst hj
    rfl
  · injection e with e
    subst e
    exact ⟨_, hbox, fun cs fz e => by injection e with _ e; exact absurd e (by decide)⟩
theorem BS.drew (s : BS n0 p b0 tk w0 Bx c h ra rb zs v Ws W) : BS n0 p b0 tk w0 Bx c h ra rb zs v Ws W.drew :=
  ⟨s.fx.aside (grown_drew W) (aside_none W), s.lc.aside (grown_drew W) (aside_none W), s.wa.aside (grown_drew W) (aside_none W), s.wb.aside (grown_drew W) (aside_none W), s.bx.kept (grown_drew W) (by simp), own_aside s.ow (grown_drew W) (aside_none W),
    s.bl.drew, s.ko.trans (KeepsOthers.drew _), s.kp.drew⟩
/-- What the region loads. -/
def Ld (p b0 : Nat) (tk : Value) (Bx : Nat) (c : Int) (W : World) : Prop :=
  W.cell? ⟨b0, 0, none⟩ = some tk ∧ W.cell? ⟨p + 2, 0, none⟩ = some (.func (.func 35) #[.pointer (some ⟨p, 0, none⟩)] #[]) ∧ W.cell? ⟨p + 3, 0, none⟩ = some (.func (.func 35) #[.pointer (some ⟨p + 1, 0, none⟩)] #[]) ∧ W.cell? ⟨Bx, 0, none⟩ = some (.int .i64 c)
theorem BS.ld (s : BS n0 p b0 tk w0 Bx c h ra rb zs v Ws W) : Ld p b0 tk Bx c W := ⟨s.fx.tk.cell, s.fx.fa.cell, s.fx.fb.cell, s.lc.1.1⟩
/-- Behind a round. -/
structure BE (n0 p b0 : Nat) (tk : Value) (w0 : World) (ra rb zs : List Spn) (v : Value) (Ws W : World) : Prop where
  fx : Fx p b0 tk W
  wa : Wk n0 W p ra
  wb : Wk n0 W (p + 1) rb
  bx : Boxed W (p + 4) 22 v
  ow : W.ownsRow n0 39 2 v zs.length (flatV zs)
  bl : Below w0.heap.size w0 W
  ko : KeepsOthers Ws W
  kp : Kp Ws W
theorem BS.be (s : BS n0 p b0 tk w0 Bx c h ra rb zs v Ws W) : BE n0 p b0 tk w0 ra rb zs v Ws W := ⟨s.fx, s.wa, s.wb, s.bx, s.ow, s.bl, s.ko, s.kp⟩
/-- Behind extend, and the store of what it gives. -/
theorem BS.ext {zs' : List Spn} {v' : Value} (s : BS n0 p b0 tk w0 Bx c h ra rb zs v Ws W) (hn : n0 ≤ p) (hb : b0 < p) (hw : w0.heap.size ≤ p) (hnw : n0 = w0.heap.size) (hg : W.grownBy W' v.ownBlock) (ho : W'.ownsRow n0 39 2 v' zs'.length (flatV zs')) :
    Boxed W' (p + 4) 22 v ∧ BE n0 p b0 tk w0 ra rb zs' v' Ws (W'.setCell ⟨p + 4, 0, none⟩ v') := by
  have nb : ∀ {B : Nat} {t : TypeId} {u : Value}, Boxed W B t u → t ≠ 39 → Boxed W' B t u := fun hB ht => hB.kept hg (hB.not_row ht s.ow)
  have bx' := nb s.bx (by decide)
  have hg2 := grownBy_setCell' W' (p + 4) v'
  have hlr : ∀ k, v.ownBlock = some k → n0 ≤ k ∧ ∃ cs, W.heap[k]? = some (.cells cs 39 (0, 0)) := fun k e => by
    rcases s.ow.2 with ⟨rfl, _⟩ | ⟨g, cap, cur, rfl, hb', hgg, _⟩
    · simp [Value.ownBlock] at e
    · have e' : g = k := by simpa [Value.ownBlock] using e
      subst e'
      exact ⟨hb', _, hgg⟩
  have fx' : Fx p b0 tk W' := ⟨nb s.fx.tk (by decide), nb s.fx.fa (by decide), nb s.fx.fb (by decide)⟩
  refine ⟨bx', ⟨fx'.keep hg2 (by simp; omega) (by simp) (by simp), ?_, ?_, bx'.set v', ?_, ?_, ?_, ?_⟩⟩
  · exact wk_box (wk_row s.wa s.ow hg) (by omega) (by omega) hg2
  · exact wk_box (wk_row s.wb s.ow hg) (by omega) (by omega) hg2
  · exact own_keep ho hg2 (.inr (bx'.not_row (by decide) ho))
  · exact (s.bl.grown hg s.bl.size (fun k e => by have := (hlr k e).1; omega)).setCell (by show w0.heap.size ≤ p + 4; omega) _
  · refine (s.ko.trans (KeepsOthers.of_grownBy hg fun j o e hj => ?_)).trans (KeepsOthers.setCell _ _ _)
    obtain ⟨_, cs, hc⟩ := hlr j e
    rw [hc] at hj
    injection hj with hj
    subst hj
    rfl
  · refine (s.kp.trans (Kp.grown hg fun g e => ?_)).trans (Kp.grown hg2 fun g e => ?_)
    · obtain ⟨_, cs, hc⟩ := hlr g e
      exact ⟨_, hc, fun cs' fz e => by injection e with _ e; exact absurd e (by decide)⟩
    · injection e with e
      subst e
      exact ⟨_, bx', fun cs fz e => by injection e with _ e; exact absurd e (by decide)⟩
end
end Go.Proofs.Ytgdgpfpihpofdaa
