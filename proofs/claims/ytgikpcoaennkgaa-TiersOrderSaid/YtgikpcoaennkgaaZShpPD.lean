/-
  Package shape: isBeside and isConvex.
-/
import Derived.Test.YtgikpcoaennkgaaZShpPC
namespace Go.Proofs.Ytgikpcoaennkgaa
open Go.RowKit Go.Sort Go.Shelf
open Go.RowKit (Below)
set_option linter.unusedVariables false
set_option linter.unusedSimpArgs false

attribute [local go_sem] Oper.semAt_some
theorem keeps_of {B : Nat} {W W' : World} (h : Below W.heap.size W W') : KeepsFrom B W W' := ⟨h.size, fun k o _ hk _ => by rw [h.block k (Array.getElem?_eq_some_iff.1 hk).1]; exact hk⟩
theorem keeps_set {B : Nat} {W : World} (a : Addr) (u : Value) : KeepsFrom B W (W.setCell a u) := (KeepsOthers.setCell _ _ _).from _
theorem box_row {W W' : World} {row : Option Nat} {g : Nat} {t : TypeId} {u : Value} (h : Boxed W g t u) (hg : W.grownBy W' row) (hr : ∀ r, row = some r → ∃ o : Obj, W.heap[r]? = some o ∧ o.isCells = false) : Boxed W' g t u :=
  h.kept hg (fun e => by obtain ⟨o, ho, hc⟩ := hr g e.symm; rw [show W.heap[g]? = _ from h] at ho; cases ho; cases hc)
theorem row_one {W : World} {l : Nat} {o : Obj} (h : W.heap[l]? = some o) (hc : o.isCells = false) : ∀ r, some l = some r → ∃ o : Obj, W.heap[r]? = some o ∧ o.isCells = false := fun r e => by cases e; exact ⟨o, h, hc⟩
theorem edges_enter (args : Array Value) (W : World) : (callFunc 70 args).run Try.prog W = .ok (.enter 70 args) W := by simp [go_sem]
/-- A step of the loop's own: a block that is no cells is turned. -/
structure Tn (b : Nat) (W W' : World) : Prop where
  bel : Below b W W'
  cell : ∀ (g i : Nat) (u : Value), W.cell? ⟨g, i, none⟩ = some u → W'.cell? ⟨g, i, none⟩ = some u
  froz : ∀ (g i : Nat) (u : Value), W.cell? ⟨g, i, none⟩ = some u → W'.frozen? ⟨g, i, none⟩ = W.frozen? ⟨g, i, none⟩
  box : ∀ (g : Nat) (t : TypeId) (u : Value), Boxed W g t u → Boxed W' g t u
theorem tn_of {b l : Nat} {W W' : World} {o : Obj} (hb : b ≤ l) (h : W.heap[l]? = some o) (hc : o.isCells = false) (hg : W.grownBy W' (some l)) : Tn b W W' :=
  ⟨(Below.refl b W).grown hg (by have := (Array.getElem?_eq_some_iff.1 h).1; omega) (fun k e => by cases e; exact hb), fun _ _ _ hk => cell_kept hk hg (row_one h hc), fun _ _ _ hk => frozen_kept hk hg (row_one h hc), fun _ _ _ hk => box_row hk hg (row_one h hc)⟩
/-- Two boxes for the loop's variables. -/
theorem two_new (W : World) (x y u z : Int) : Below W.heap.size W ((W.alloc (.cells #[.int .i64 x, .int .i64 y] 55)).alloc (.cells #[.int .i64 u, .int .i64 z] 55)) := ((Below.refl _ _).alloc (Nat.le_refl _) _).alloc (by simp) _
/-- Between two rounds: the caller's boxes, and what has come so far. -/
structure Bx (g : Nat) (A : Option Addr) (n C : Nat) (r : Bool) (w0 : World) (p : Prop) (W : World) : Prop where
  b : Boxed W g 45 (.slice A n C)
  r : Boxed W (g + 1) 4 (.bool r)
  bel : Below w0.heap.size w0 W
  hp : p
theorem Bx.own {B g : Nat} {A : Option Addr} {n C : Nat} {r : Bool} {w0 : World} {p : Nat → Prop} (hB : w0.heap.size ≤ B) : OwnFrom B (fun k W => Bx g A n C r w0 (p k) W) :=
  fun k W W' row h hg hr => ⟨box_row h.b hg (fun r e => (hr r e).2), box_row h.r hg (fun r e => (hr r e).2), h.bel.grown hg h.bel.size (fun j e => by have := (hr j e).1; omega), h.hp⟩
theorem Bx.on {g : Nat} {A : Option Addr} {n C : Nat} {r : Bool} {w0 : World} {p q : Prop} {W W' : World} (h : Bx g A n C r w0 p W) (hb : Below W.heap.size W W') (hq : q) : Bx g A n C r w0 q W' := ⟨h.b.kept (grown_of hb) (by simp), h.r.kept (grown_of hb) (by simp), on_below h.bel hb, hq⟩
theorem Bx.put {g : Nat} {A : Option Addr} {n C : Nat} {r s : Bool} {w0 : World} {p : Prop} {W : World} (h : Bx g A n C r w0 p W) (hg : w0.heap.size ≤ g) : Bx g A n C s w0 p (W.setCell ⟨g + 1, 0, none⟩ (.bool s)) :=
  ⟨h.b.other (by omega) _, h.r.set _, h.bel.setCell (by show w0.heap.size ≤ g + 1; omega) _, h.hp⟩

set_option maxRecDepth 100000 in
set_option maxHeartbeats 4000000 in
theorem beside_is (A B : Option Addr) (C D : Nat) (xs ys : List (Int × Int)) (hx : ∀ j, j < xs.length → co (px xs j) ∧ co (py xs j)) (hy : ∀ j, j < ys.length → co (px ys j) ∧ co (py ys j)) (lx : xs.length ≤ 9223372036854775806) (ly : ys.length ≤ 9223372036854775806) (r : Bool) (hr : r = true ↔ Par ys xs) (w : World) (hl : SlS w A xs) (hm : SlS w B ys) :
    Calls Try.prog 35 #[.slice A xs.length C, .slice B ys.length D] w fun e_ w' => e_ = .returned (.bool r) ∧ Below w.heap.size w w' := by
  have HX := Lib.hid hx
  have HY := Lib.hid hy
  have HR := Lib.hid hr
  have HL := Lib.hid hl
  have HM := Lib.hid hm
  clear hx hy hr hl hm
  refine (callsIn_wide (n := 8)).1 ?_
  refine callsIn_of_wp_marks Try.func35 rfl trivial ?_ rfl
  simp only [Try.ntmps35, List.size_toArray, List.length_cons, List.length_nil, Nat.reduceAdd, Nat.reduceSub, Array.replicate_succ, Array.replicate_zero, List.push_toArray, List.append_toArray, List.nil_append, List.cons_append]
  have hmx : Try.prog.follows .mixedOrders = true := by kernel_rfl
  gi_wp2_with fail
  have HB := Lib.hid (show Below w.heap.size w ((w.alloc (.cells #[.slice A xs.length C] 45)).alloc (.cells #[.bool false] 4)) from ((Below.refl _ _).alloc (Nat.le_refl _) _).alloc (by simp) _)
  have x1 : Boxed ((w.alloc (.cells #[.slice A xs.length C] 45)).alloc (.cells #[.bool false] 4)) w.heap.size 45 (.slice A xs.length C) := (Boxed.new w _ _).alloc _
  have x2 : Boxed ((w.alloc (.cells #[.slice A xs.length C] 45)).alloc (.cells #[.bool false] 4)) (w.heap.size + 1) 4 (.bool false) := by have := Boxed.new (w.alloc (.cells #[.slice A xs.length C] 45)) 4 (.bool false); rwa [World.size_alloc] at this
  generalize (w.alloc (.cells #[.slice A xs.length C] 45)).alloc (.cells #[.bool false] 4) = w1 at *
  have HX1 := Lib.hid x1
  have HX2 := Lib.hid x2
  have c1 := x1.cell
  clear x1 x2
  refine ⟨trivial, (callsIn_wide.2 (edges_any B ys.length D w1)).mono ?_⟩
  rintro e w2 ⟨rfl, hw2⟩
  have hb2 : Below w1.heap.size w1 w2 := by rw [hw2]; exact below_new _ _
  have x3 : Boxed w2 w1.heap.size 45 (.slice B ys.length D) := by rw [hw2]; exact Boxed.new _ _ _
  replace HX1 := Lib.hid (HX1.out.kept (grown_of hb2) (by simp))
  replace HX2 := Lib.hid (HX2.out.kept (grown_of hb2) (by simp))
  replace HB := Lib.hid (on_below HB.out hb2)
  clear hw2 hb2 c1
  generalize w1.heap.size = g3 at *
  clear w1
  have hsz : w.heap.size + 1 < w2.heap.size := HX2.out.lt
  have HSQ := Lib.hid (edges_seq 7 (by omega) g3 B D ys ly w w2 HM.out HB.out x3)
  have HB0 := Lib.hid (show w.heap.size ≤ w2.heap.size by omega)
  gi_wp2_with fail
  refine range_n (gf := 70) (lb := #[.pointer (some ⟨g3, 0, none⟩)]) rfl edges_enter HSQ.out (Below.refl _ _) (fun k args W e => by rw [e]; rfl) Kz.trans (fun W l o o' hl h1 h2 => Kz.put o' (by omega) h1 h2)
    (fun k W => Bx w.heap.size A xs.length C false w (Hid (∀ j, j < k → ¬ ∀ i, i < xs.length → crs (px ys j) (py ys j) (px ys (nx ys.length j)) (py ys (nx ys.length j)) (px xs i) (py xs i) ≤ 0)) W) (fun k W => Bx w.heap.size A xs.length C true w (Hid (Par ys xs)) W) (Bx.own (by omega)) (Bx.own (by omega))
    ⟨HX1.out, HX2.out, HB.out, fun j hj => absurd hj (Nat.not_lt_zero j)⟩ ?round ?done ?stop
  case round =>
    rintro l k args W hl hk hI rfl
    have HI := Lib.hid hI
    have hn1 := nx_lt hk
    have HC := Lib.hid (fun W n hn (h : SlS W A xs) => count_is (gdS ys k).1 (gdS ys k).2 (gdS ys (nx ys.length k)).1 (gdS ys (nx ys.length k)).2 (HY.out k hk).1 (HY.out k hk).2 (HY.out _ hn1).1 (HY.out _ hn1).2 A C xs HX.out lx n hn W h)
    have HE := Lib.hid (show (cnt (lef (gdS ys k).1 (gdS ys k).2 (gdS ys (nx ys.length k)).1 (gdS ys (nx ys.length k)).2 xs) xs.length = 0) ↔ ∀ i, i < xs.length → crs (px ys k) (py ys k) (px ys (nx ys.length k)) (py ys (nx ys.length k)) (px xs i) (py xs i) ≤ 0 from
      cnt_zero.trans ⟨fun h i hi => by have h := of_decide_eq_false (h i hi); exact Int.not_lt.1 h, fun h i hi => decide_eq_false (Int.not_lt.2 (h i hi))⟩)
    obtain ⟨q, hq⟩ : ∃ q, cnt (lef (gdS ys k).1 (gdS ys k).2 (gdS ys (nx ys.length k)).1 (gdS ys (nx ys.length k)).2 xs) xs.length = q := ⟨_, rfl⟩
    rw [hq] at HE
    have HQ := Lib.hid hq
    clear hI hq hn1 HSQ HX1 HX2 HB
    simp only [encE]
    generalize (gdS ys k).1 = x at *
    generalize (gdS ys k).2 = y at *
    generalize (gdS ys (nx ys.length k)).1 = u at *
    generalize (gdS ys (nx ys.length k)).2 = z at *
    have HWs := Lib.hid (show w.heap.size ≤ W.heap.size from HI.out.bel.size)
    gi_wp2
    have h2 := two_new W x y u z
    refine ⟨keeps_of h2, Kz.of h2 HWs.out, ?_⟩
    rintro o Wb ho hc hsome hg hoth
    have HT := Lib.hid (tn_of (Nat.le_trans HB0.out hl) ho hc hg)
    have d0 := HT.out.cell W.heap.size 0 (.int .i64 x) (by simp [go_sem])
    have d1 := HT.out.cell W.heap.size 1 (.int .i64 y) (by simp [go_sem])
    have d2 := HT.out.cell (W.heap.size + 1) 0 (.int .i64 u) (by simp [go_sem])
    have d3 := HT.out.cell (W.heap.size + 1) 1 (.int .i64 z) (by simp [go_sem])
    have HI2 := Lib.hid (HI.out.on h2 HI.out.hp)
    replace HI2 := Lib.hid (show Bx w.heap.size A xs.length C false w _ Wb from ⟨HT.out.box _ _ _ HI2.out.b, HT.out.box _ _ _ HI2.out.r, HI2.out.bel.trans HT.out.bel, HI2.out.hp⟩)
    have d4 := HI2.out.b.cell
    have HS := Lib.hid (HL.out.below HI2.out.bel)
    clear ho hc hsome hg hoth h2 HT HI
    gi_wp2_with fail
    refine ⟨trivial, (CallsIn.inRound l (callsIn_wide.2 (HC.out Wb q HQ.out HS.out))).mono ?_⟩
    rintro e W3 ⟨rfl, hb⟩
    have HI3 := Lib.hid (HI2.out.on hb HI2.out.hp)
    have HK3 := Lib.hid (Kz.of (b := w.heap.size) (T := 28) hb HI2.out.bel.size)
    have HF3 := Lib.hid (keeps_of (B := w2.heap.size) hb)
    clear hb d0 d1 d2 d3 d4 HC
    by_cases hz : q = 0
    · have HP := Lib.hid (show Par ys xs from ⟨k, hk, HE.out.1 hz⟩)
      have d5 := HI3.out.r.cell
      have d6 := HI3.out.r.frozen
      have hz2 : ((q : Int) == 0) = true := by rw [hz]; rfl
      clear hz HE HQ
      gi_wp2
      exact ⟨HF3.out.trans (keeps_set _ _), (Bx.put (s := true) ⟨HI3.out.b, HI3.out.r, HI3.out.bel, HP.out⟩ (Nat.le_refl _))⟩
    · have HN := Lib.hid (fun h => hz (HE.out.2 h))
      have hz2 : ((q : Int) == 0) = false := by rw [beq_eq_false_iff_ne]; omega
      clear hz HE HQ
      gi_wp2
      exact ⟨HF3.out, HK3.out, HI3.out.b, HI3.out.r, HI3.out.bel, fun j hj => by by_cases e : j = k; (subst e; exact HN.out); exact HI3.out.hp j (by omega)⟩
  case done =>
    rintro D_ W hD hI hK
    have hf := false_of (r := r) fun e => by obtain ⟨j, hj, h⟩ := HR.out.1 e; exact hI.hp j hj h
    subst hf
    have hx := hI.r
    have HBL := Lib.hid hI.bel
    have c7 := hx.cell
    have c8 := hx.frozen
    have x8 := hx.set (.bool false)
    have k8 : (W.setCell ⟨w.heap.size + 1, 0, none⟩ (.bool false)).heap[D_]? = some (.deferred (some [])) := (KeepsOthers.setCell _ _ _).same _ _ hK rfl
    have d8 := (box_row x8 (grownBy_putObj' _ D_ (.deferred none)) (row_one k8 rfl)).cell
    have HF := Lib.hid (show Below w.heap.size w ((W.setCell ⟨w.heap.size + 1, 0, none⟩ (.bool false)).putObj D_ (.deferred none)) from (hI.bel.setCell (by show w.heap.size ≤ w.heap.size + 1; omega) _).grown (grownBy_putObj' _ D_ _) (by have := hI.bel.size; simpa using this) (fun k e => by cases e; omega))
    clear hI hx x8
    gi_wp2
    refine ⟨by simp, .inl ⟨_, _, rfl, run_takeDeferred k8, ?_⟩⟩
    exact ⟨.bool false, by simp [results, Try.results35, go_sem, d8], rfl, HF.out⟩
  case stop =>
    rintro D_ k W hD hk hI hK
    have hf := true_of (HR.out.2 hI.hp)
    subst hf
    have d8 := (box_row hI.r (grownBy_putObj' _ D_ (.deferred none)) (row_one hK rfl)).cell
    have HF := Lib.hid (show Below w.heap.size w (W.putObj D_ (.deferred none)) from hI.bel.grown (grownBy_putObj' _ D_ _) hI.bel.size (fun k e => by cases e; omega))
    clear hI
    gi_wp2
    refine ⟨by simp, .inl ⟨_, _, rfl, run_takeDeferred hK, ?_⟩⟩
    exact ⟨.bool true, by simp [results, Try.results35, go_sem, d8], rfl, HF.out⟩
end Go.Proofs.Ytgikpcoaennkgaa
