/-
  Package shape: the closure that narrows a clip.
-/
import Derived.Test.YtiffgcipdamngaaZShpPI
import Derived.Test.YtiffgcipdamngaaZShpPJ
import Derived.Test.YtiffgcipdamngaaZShpR
import Derived.Deep.RegionWith
namespace Go.Proofs.Ytiffgcipdamngaa
open Go.RowKit Go.Sort
open Go.RowKit (Below)
set_option linter.unusedVariables false
set_option linter.unusedSimpArgs false

theorem set_cells {W : World} {g : Nat} {cs : Array Value} {t : TypeId} {fz : Nat × Nat} (h : W.heap[g]? = some (.cells cs t fz)) (i : Nat) (u : Value) : (W.setCell ⟨g, i, none⟩ u).heap[g]? = some (.cells (cs.setIfInBounds i u) t fz) := by
  obtain ⟨hlt, hk⟩ := Array.getElem?_eq_some_iff.1 h
  show (W.heap.modify g _)[g]? = _
  rw [Array.getElem?_eq_getElem (by rw [Array.size_modify]; exact hlt), Array.getElem_modify_self, hk]
  rfl
theorem two_cells {W : World} {g : Nat} {x y : Value} {t : TypeId} (h : W.heap[g]? = some (.cells #[x, y] t (0, 0))) : W.cell? ⟨g, 0, none⟩ = some x ∧ W.cell? ⟨g, 1, none⟩ = some y ∧ W.frozen? ⟨g, 0, none⟩ = false ∧ W.frozen? ⟨g, 1, none⟩ = false := by
  refine ⟨?_, ?_, ?_, ?_⟩ <;> simp [World.cell?, World.frozen?, h]
/-- Block g holds a number. -/
def Lr (W : World) (g : Nat) (n d : Int) : Prop := W.heap[g]? = some (.cells #[.int .i64 n, .int .i64 d] 32 (0, 0))
theorem Lr.on {W W' : World} {g : Nat} {n d : Int} (h : Lr W g n d) (hb : Below W.heap.size W W') : Lr W' g n d := by unfold Lr at *; rw [hb.block g (Array.getElem?_eq_some_iff.1 h).1]; exact h
theorem Lr.lt {W : World} {g : Nat} {n d : Int} (h : Lr W g n d) : g < W.heap.size := (Array.getElem?_eq_some_iff.1 h).1
theorem Lr.put {W : World} {g : Nat} {n d : Int} (h : Lr W g n d) (x y : Int) : Lr ((W.setCell ⟨g, 0, none⟩ (.int .i64 x)).setCell ⟨g, 1, none⟩ (.int .i64 y)) g x y := set_cells (set_cells h 0 (.int .i64 x)) 1 (.int .i64 y)
theorem Lr.far {W : World} {g g' : Nat} {n d : Int} (h : Lr W g n d) (ne : g ≠ g') (x y : Int) : Lr ((W.setCell ⟨g', 0, none⟩ (.int .i64 x)).setCell ⟨g', 1, none⟩ (.int .i64 y)) g n d := by
  unfold Lr at *
  rw [Below.heap_setCell _ ⟨g', 1, none⟩ _ g ne, Below.heap_setCell _ ⟨g', 0, none⟩ _ g ne]; exact h
/-- What the closure leaves. -/
structure Nar (b gl gh : Nat) (S : Rg) (w w' : World) : Prop where
  l : Lr w' gl S.ln S.ld
  h : Lr w' gh S.hn S.hd
  z : Kz b 32 w w'
  k : KeepsOthers w w'
  o : ∀ g, g ≠ gl → g ≠ gh → g < w.heap.size → w'.heap[g]? = w.heap[g]?
theorem others_of {W W' : World} (h : Below W.heap.size W W') : KeepsOthers W W' := ⟨h.size, fun k o hk _ => by rw [h.block k (Array.getElem?_eq_some_iff.1 hk).1]; exact hk⟩
section
variable {b gl gh : Nat} {s : Rg} {w w1 : World}
theorem nar_same (hb : b ≤ w.heap.size) (L : Lr w gl s.ln s.ld) (H : Lr w gh s.hn s.hd) (h : Below w.heap.size w w1) : Nar b gl gh s w w1 := ⟨L.on h, H.on h, Kz.of h hb, others_of h, fun g _ _ hg => h.block g hg⟩
theorem far_put {g g' : Nat} (x y : Value) (h : Below w.heap.size w w1) (ne : g ≠ g') (hg : g < w.heap.size) : ((w1.setCell ⟨g', 0, none⟩ x).setCell ⟨g', 1, none⟩ y).heap[g]? = w.heap[g]? := by
  rw [Below.heap_setCell _ ⟨g', 1, none⟩ _ g ne, Below.heap_setCell _ ⟨g', 0, none⟩ _ g ne, h.block g hg]
theorem nar_put {g : Nat} {n d : Int} (x y : Int) (hb : b ≤ w.heap.size) (hg : b ≤ g) (G : Lr w g n d) (h : Below w.heap.size w w1) : Kz b 32 w ((w1.setCell ⟨g, 0, none⟩ (.int .i64 x)).setCell ⟨g, 1, none⟩ (.int .i64 y)) ∧ KeepsOthers w ((w1.setCell ⟨g, 0, none⟩ (.int .i64 x)).setCell ⟨g, 1, none⟩ (.int .i64 y)) :=
  ⟨((Kz.of h hb).trans (Kz.set 0 _ hg (G.on h))).trans (Kz.set 1 _ hg (set_cells (G.on h) 0 (.int .i64 x))), ((others_of h).trans (KeepsOthers.setCell _ _ _)).trans (KeepsOthers.setCell _ _ _)⟩
theorem nar_low (x y : Int) (hb : b ≤ w.heap.size) (hg : b ≤ gl) (ne : gl ≠ gh) (L : Lr w gl s.ln s.ld) (H : Lr w gh s.hn s.hd) (h : Below w.heap.size w w1) : Nar b gl gh ⟨x, y, s.hn, s.hd, s.e⟩ w ((w1.setCell ⟨gl, 0, none⟩ (.int .i64 x)).setCell ⟨gl, 1, none⟩ (.int .i64 y)) :=
  ⟨(L.on h).put x y, (H.on h).far (fun e => ne e.symm) x y, (nar_put x y hb hg L h).1, (nar_put x y hb hg L h).2, fun g h1 _ hg' => far_put _ _ h h1 hg'⟩
theorem nar_high (x y : Int) (hb : b ≤ w.heap.size) (hg : b ≤ gh) (ne : gl ≠ gh) (L : Lr w gl s.ln s.ld) (H : Lr w gh s.hn s.hd) (h : Below w.heap.size w w1) : Nar b gl gh ⟨s.ln, s.ld, x, y, s.e⟩ w ((w1.setCell ⟨gh, 0, none⟩ (.int .i64 x)).setCell ⟨gh, 1, none⟩ (.int .i64 y)) :=
  ⟨(L.on h).far ne x y, (H.on h).put x y, (nar_put x y hb hg H h).1, (nar_put x y hb hg H h).2, fun g _ h2 hg' => far_put _ _ h h2 hg'⟩
end
set_option maxRecDepth 100000 in
set_option maxHeartbeats 4000000 in
theorem nw_up (b gl gh : Nat) (hgl : b ≤ gl) (hgh : b ≤ gh) (ne : gl ≠ gh) (a e : Int) (ba : -50000000 ≤ a ∧ a ≤ 50000000) (be : -50000000 ≤ e ∧ e ≤ 50000000) (s : Rg) (v : Vok s) (hlt : a < e) (X Y : Int) (hXY : (if s.ln * mkD a (a - e) < mkN a (a - e) * s.ld then (mkN a (a - e), mkD a (a - e)) else (s.ln, s.ld)) = (X, Y)) (w : World) (hb : b ≤ w.heap.size) (L : Lr w gl s.ln s.ld) (H : Lr w gh s.hn s.hd) :
    Calls Try.prog 87 #[.int .i64 a, .int .i64 e, .pointer (some ⟨gl, 0, none⟩), .pointer (some ⟨gh, 0, none⟩)] w fun e_ w' => e_ = .returned (.tuple #[]) ∧ Nar b gl gh (⟨X, Y, s.hn, s.hd, s.e⟩) w w' := by
  have HC := Lib.hid (fun W => cross_is a e _ _ ⟨by omega, by omega⟩ ⟨by omega, by omega⟩ rfl rfl W)
  have HM := Lib.hid (fun g W k0 k1 k2 k3 => maxr_is g s.ln s.ld (mkN a (a - e)) (mkD a (a - e)) X Y v.1 (mk_vld (by omega) ba be) hXY W k0 k1 k2 k3)
  have HK := Lib.hid (fun (w1 : World) (h : Below w.heap.size w w1) => nar_low X Y hb hgl ne L H h)
  have HG := Lib.hid (fun (w1 : World) (h : Below w.heap.size w w1) => two_cells (L.on h))
  have lg : gl < w.heap.size := L.lt
  have hc0 := (two_cells L).1
  have hc1 := (two_cells L).2.1
  clear hXY ba be v L H
  generalize mkN a (a - e) = n at *
  generalize mkD a (a - e) = d at *
  generalize s.ln = p at *
  generalize s.ld = q at *
  go_enter Try.func87, Try.ntmps87
  go_wp2_with fail
  go_region_with (first
    | (go_at_call 89; (with_reducible refine (HC.out _).mono ?_); rintro e' w3 ⟨rfl, hb3⟩; have hb9 : Below w.heap.size w w3 := undrew_b hb3; have c0 : w3.cell? ⟨gl, 0, none⟩ = some (.int .i64 p) := keepc hb9 hc0; have c1 : w3.cell? ⟨gl, 1, none⟩ = some (.int .i64 q) := keepc hb9 hc1)
    | (go_at_call 88; (with_reducible refine (HM.out _ _ ?_ ?_ ?_ ?_).mono ?_); (focus (simp [go_sem]; done)); (focus (simp [go_sem]; done)); (focus (simp [go_sem]; done)); (focus (simp [go_sem]; done)); rintro e' w4 ⟨rfl, hb4⟩; have hb8 : Below w.heap.size w w4 := on_below hb9 (on_below (below_new _ _) hb4); have hd0 := (HG.out _ hb8).1; have hd1 := (HG.out _ hb8).2.1; have hf0 := (HG.out _ hb8).2.2.1; have hf1 := (HG.out _ hb8).2.2.2))
  all_goals
    have HN := Lib.hid (HK.out _ (show Below w.heap.size w w4 by assumption))
    go_wp2_with fail
    go_end0
    exact ⟨rfl, HN.out⟩
set_option maxRecDepth 100000 in
set_option maxHeartbeats 4000000 in
theorem nw_dn (b gl gh : Nat) (hgl : b ≤ gl) (hgh : b ≤ gh) (ne : gl ≠ gh) (a e : Int) (ba : -50000000 ≤ a ∧ a ≤ 50000000) (be : -50000000 ≤ e ∧ e ≤ 50000000) (s : Rg) (v : Vok s) (hlt : e < a) (X Y : Int) (hXY : (if mkN a (a - e) * s.hd < s.hn * mkD a (a - e) then (mkN a (a - e), mkD a (a - e)) else (s.hn, s.hd)) = (X, Y)) (w : World) (hb : b ≤ w.heap.size) (L : Lr w gl s.ln s.ld) (H : Lr w gh s.hn s.hd) :
    Calls Try.prog 87 #[.int .i64 a, .int .i64 e, .pointer (some ⟨gl, 0, none⟩), .pointer (some ⟨gh, 0, none⟩)] w fun e_ w' => e_ = .returned (.tuple #[]) ∧ Nar b gl gh (⟨s.ln, s.ld, X, Y, s.e⟩) w w' := by
  have HC := Lib.hid (fun W => cross_is a e _ _ ⟨by omega, by omega⟩ ⟨by omega, by omega⟩ rfl rfl W)
  have HM := Lib.hid (fun g W k0 k1 k2 k3 => minr_is g s.hn s.hd (mkN a (a - e)) (mkD a (a - e)) X Y v.2 (mk_vld (by omega) ba be) hXY W k0 k1 k2 k3)
  have HK := Lib.hid (fun (w1 : World) (h : Below w.heap.size w w1) => nar_high X Y hb hgh ne L H h)
  have HG := Lib.hid (fun (w1 : World) (h : Below w.heap.size w w1) => two_cells (H.on h))
  have lg : gh < w.heap.size := H.lt
  have hc0 := (two_cells H).1
  have hc1 := (two_cells H).2.1
  clear hXY ba be v L H
  generalize mkN a (a - e) = n at *
  generalize mkD a (a - e) = d at *
  generalize s.hn = p at *
  generalize s.hd = q at *
  go_enter Try.func87, Try.ntmps87
  go_wp2_with fail
  go_region_with (first
    | (go_at_call 89; (with_reducible refine (HC.out _).mono ?_); rintro e' w3 ⟨rfl, hb3⟩; have hb9 : Below w.heap.size w w3 := undrew_b hb3; have c0 : w3.cell? ⟨gh, 0, none⟩ = some (.int .i64 p) := keepc hb9 hc0; have c1 : w3.cell? ⟨gh, 1, none⟩ = some (.int .i64 q) := keepc hb9 hc1)
    | (go_at_call 91; (with_reducible refine (HM.out _ _ ?_ ?_ ?_ ?_).mono ?_); (focus (simp [go_sem]; done)); (focus (simp [go_sem]; done)); (focus (simp [go_sem]; done)); (focus (simp [go_sem]; done)); rintro e' w4 ⟨rfl, hb4⟩; have hb8 : Below w.heap.size w w4 := on_below hb9 (on_below (below_new _ _) hb4); have hd0 := (HG.out _ hb8).1; have hd1 := (HG.out _ hb8).2.1; have hf0 := (HG.out _ hb8).2.2.1; have hf1 := (HG.out _ hb8).2.2.2))
  all_goals
    have HN := Lib.hid (HK.out _ (show Below w.heap.size w w4 by assumption))
    go_wp2_with fail
    go_end0
    exact ⟨rfl, HN.out⟩
set_option maxRecDepth 100000 in
set_option maxHeartbeats 4000000 in
theorem nw_eq0 (b gl gh : Nat) (hgl : b ≤ gl) (hgh : b ≤ gh) (ne : gl ≠ gh) (a e : Int) (ba : -50000000 ≤ a ∧ a ≤ 50000000) (be : -50000000 ≤ e ∧ e ≤ 50000000) (s : Rg) (v : Vok s) (he : a = e) (h0 : a ≤ 0) (w : World) (hb : b ≤ w.heap.size) (L : Lr w gl s.ln s.ld) (H : Lr w gh s.hn s.hd) :
    Calls Try.prog 87 #[.int .i64 a, .int .i64 e, .pointer (some ⟨gl, 0, none⟩), .pointer (some ⟨gh, 0, none⟩)] w fun e_ w' => e_ = .returned (.tuple #[]) ∧ Nar b gl gh (⟨s.ln, s.ld, s.ln, s.ld, s.e⟩) w w' := by
  subst he
  have HK := Lib.hid (nar_high s.ln s.ld hb hgh ne L H (Below.refl w.heap.size w))
  have lg : gh < w.heap.size := H.lt
  have hc0 := (two_cells L).1
  have hc1 := (two_cells L).2.1
  have hd0 := (two_cells H).1
  have hd1 := (two_cells H).2.1
  have hf0 := (two_cells H).2.2.1
  have hf1 := (two_cells H).2.2.2
  clear ba be v L H
  generalize s.ln = p at *
  generalize s.ld = q at *
  go_enter Try.func87, Try.ntmps87
  go_wp2_with fail
  go_end0
  exact ⟨rfl, HK.out⟩
set_option maxRecDepth 100000 in
set_option maxHeartbeats 4000000 in
theorem nw_eq1 (b gl gh : Nat) (hgl : b ≤ gl) (hgh : b ≤ gh) (ne : gl ≠ gh) (a e : Int) (ba : -50000000 ≤ a ∧ a ≤ 50000000) (be : -50000000 ≤ e ∧ e ≤ 50000000) (s : Rg) (v : Vok s) (he : a = e) (h0 : 0 < a) (w : World) (hb : b ≤ w.heap.size) (L : Lr w gl s.ln s.ld) (H : Lr w gh s.hn s.hd) :
    Calls Try.prog 87 #[.int .i64 a, .int .i64 e, .pointer (some ⟨gl, 0, none⟩), .pointer (some ⟨gh, 0, none⟩)] w fun e_ w' => e_ = .returned (.tuple #[]) ∧ Nar b gl gh (s) w w' := by
  subst he
  have HK := Lib.hid (nar_same hb L H (Below.refl w.heap.size w))
  clear ba be v L H
  go_enter Try.func87, Try.ntmps87
  go_wp2_with fail
  go_end0
  exact ⟨rfl, HK.out⟩
theorem narrow_is (b gl gh : Nat) (hgl : b ≤ gl) (hgh : b ≤ gh) (ne : gl ≠ gh) (a e : Int) (ba : -50000000 ≤ a ∧ a ≤ 50000000) (be : -50000000 ≤ e ∧ e ≤ 50000000) (s : Rg) (v : Vok s) (S : Rg) (hS : pnar a e s = S) (w : World) (hb : b ≤ w.heap.size) (L : Lr w gl s.ln s.ld) (H : Lr w gh s.hn s.hd) :
    Calls Try.prog 87 #[.int .i64 a, .int .i64 e, .pointer (some ⟨gl, 0, none⟩), .pointer (some ⟨gh, 0, none⟩)] w fun e_ w' => e_ = .returned (.tuple #[]) ∧ Nar b gl gh S w w' := by
  subst hS
  unfold pnar
  by_cases c1 : a < e
  · rw [if_pos c1]
    split
    · rename_i c
      exact nw_up b gl gh hgl hgh ne a e ba be s v c1 _ _ (by rw [if_pos c]) w hb L H
    · rename_i c
      exact nw_up b gl gh hgl hgh ne a e ba be s v c1 _ _ (by rw [if_neg c]) w hb L H
  · rw [if_neg c1]
    by_cases c2 : e < a
    · rw [if_pos c2]
      split
      · rename_i c
        exact nw_dn b gl gh hgl hgh ne a e ba be s v c2 _ _ (by rw [if_pos c]) w hb L H
      · rename_i c
        exact nw_dn b gl gh hgl hgh ne a e ba be s v c2 _ _ (by rw [if_neg c]) w hb L H
    · rw [if_neg c2]
      by_cases c3 : a ≤ 0
      · rw [if_pos c3]
        exact nw_eq0 b gl gh hgl hgh ne a e ba be s v (by omega) c3 w hb L H
      · rw [if_neg c3]
        exact nw_eq1 b gl gh hgl hgh ne a e ba be s v (by omega) (by omega) w hb L H
end Go.Proofs.Ytiffgcipdamngaa
