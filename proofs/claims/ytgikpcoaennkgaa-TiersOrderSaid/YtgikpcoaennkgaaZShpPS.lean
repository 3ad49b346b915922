/-
  Package shape: the iterator of sides: the depths behind the edges, the bottom and the top.
-/
import Derived.Test.YtgikpcoaennkgaaZShpPD
import Derived.Test.YtgikpcoaennkgaaZShpPJ
namespace Go.Proofs.Ytgikpcoaennkgaa
open Go.RowKit Go.Sort Go.Shelf
open Go.RowKit (Below)
set_option linter.unusedVariables false
set_option linter.unusedSimpArgs false

attribute [local go_sem] Oper.semAt_some
/-- The k-th round is given a function that tells how far points are behind the k-th side. -/
def DepA (xs : List (Int × Int)) (lo hi : Int) (n0 : Nat) (k : Nat) (args : Array Value) (W : World) : Prop :=
  ∃ (f : Nat) (caps : Array Value), args = #[.func (.func f) #[] caps] ∧ (∀ av V, (callFunc f av).run Try.prog V = .ok (.enter f av) V) ∧
    ∀ W' a b c s, Kz n0 28 W W' → V3 a b c → dep xs lo hi k a b c = s → Calls Try.prog f (#[.agg #[.int .i64 a, .int .i64 b, .int .i64 c]] ++ caps) W' fun e w' => e = .returned (.int .i64 s) ∧ Below W'.heap.size W' w'
theorem cells2 {W : World} {g : Nat} {x y : Value} {t : TypeId} {fz : Nat × Nat} (h : W.heap[g]? = some (.cells #[x, y] t fz)) : W.cell? ⟨g, 0, none⟩ = some x ∧ W.cell? ⟨g, 1, none⟩ = some y := by
  constructor <;> simp [World.cell?, h]
theorem cells3 {W : World} {g : Nat} {x y z : Value} {t : TypeId} {fz : Nat × Nat} (h : W.heap[g]? = some (.cells #[x, y, z] t fz)) : W.cell? ⟨g, 0, none⟩ = some x ∧ W.cell? ⟨g, 1, none⟩ = some y ∧ W.cell? ⟨g, 2, none⟩ = some z := by
  refine ⟨?_, ?_, ?_⟩ <;> simp [World.cell?, h]
theorem round_in {n m l l' : Nat} {P : Program} {f : FuncId} {tmps : Array Value} {assign body : Code} {w : World} {R : Ending → World → Prop} (h : RoundIn Fence.wide n P l f tmps assign body w R) : RoundIn (Fence.wide.inRound l') m P l f tmps assign body w R :=
  ⟨h.1, fun c cs _ => h.2 c cs (fun d e => by simp [Fence.wide] at e)⟩
section
variable {xs : List (Int × Int)} {lo hi : Int} {n0 k bb g h : Nat} {W : World} {A : Option Addr} {C : Nat}
theorem depA_edge (hk : k < xs.length) (hco : ∀ j, j < xs.length → co (px xs j) ∧ co (py xs j)) (fz fz' : Nat × Nat) (hg : W.heap[g]? = some (.cells #[.int .i64 (gdS xs k).1, .int .i64 (gdS xs k).2] 55 fz)) (hh : W.heap[h]? = some (.cells #[.int .i64 (gdS xs (nx xs.length k)).1, .int .i64 (gdS xs (nx xs.length k)).2] 55 fz')) :
    DepA xs lo hi n0 k #[.func (.func 50) #[] #[.pointer (some ⟨h, 0, none⟩), .pointer (some ⟨g, 0, none⟩)]] W := by
  refine ⟨_, _, rfl, fun av V => by simp [go_sem], fun W' a b c s hz hv hs => ?_⟩
  have h1 := cells2 (hz.same g _ _ _ (by decide) hg)
  have h2 := cells2 (hz.same h _ _ _ (by decide) hh)
  have hn := nx_lt hk
  rw [show (#[.agg #[.int .i64 a, .int .i64 b, .int .i64 c]] ++ #[.pointer (some ⟨h, 0, none⟩), .pointer (some ⟨g, 0, none⟩)] : Array Value) = #[.agg #[.int .i64 a, .int .i64 b, .int .i64 c], .pointer (some ⟨h, 0, none⟩), .pointer (some ⟨g, 0, none⟩)] by simp]
  exact dep_edge h g (px xs k) (py xs k) (px xs (nx xs.length k)) (py xs (nx xs.length k)) a b c s (hco k hk).1 (hco k hk).2 (hco _ hn).1 (hco _ hn).2 hv.x hv.y (by rw [← hs]; unfold dep; rw [if_pos hk]) W' h2.1 h2.2 h1.1 h1.2
theorem depA_low (hl : co lo) (fz : Nat × Nat) (hb : W.heap[bb]? = some (.cells #[.slice A xs.length C, .int .i64 lo, .int .i64 hi] 47 fz)) : DepA xs lo hi n0 xs.length #[.func (.func 51) #[] #[.pointer (some ⟨bb, 0, none⟩)]] W := by
  refine ⟨_, _, rfl, fun av V => by simp [go_sem], fun W' a b c s hz hv hs => ?_⟩
  have h1 := cells3 (hz.same bb _ _ _ (by decide) hb)
  rw [show (#[.agg #[.int .i64 a, .int .i64 b, .int .i64 c]] ++ #[.pointer (some ⟨bb, 0, none⟩)] : Array Value) = #[.agg #[.int .i64 a, .int .i64 b, .int .i64 c], .pointer (some ⟨bb, 0, none⟩)] by simp]
  exact dep_low bb lo a b c s hl hv.z (by rw [← hs]; unfold dep; rw [if_neg (Nat.lt_irrefl _), if_pos rfl]) W' h1.2.1
theorem depA_high (hl : co hi) (fz : Nat × Nat) (hb : W.heap[bb]? = some (.cells #[.slice A xs.length C, .int .i64 lo, .int .i64 hi] 47 fz)) : DepA xs lo hi n0 (xs.length + 1) #[.func (.func 52) #[] #[.pointer (some ⟨bb, 0, none⟩)]] W := by
  refine ⟨_, _, rfl, fun av V => by simp [go_sem], fun W' a b c s hz hv hs => ?_⟩
  have h1 := cells3 (hz.same bb _ _ _ (by decide) hb)
  rw [show (#[.agg #[.int .i64 a, .int .i64 b, .int .i64 c]] ++ #[.pointer (some ⟨bb, 0, none⟩)] : Array Value) = #[.agg #[.int .i64 a, .int .i64 b, .int .i64 c], .pointer (some ⟨bb, 0, none⟩)] by simp]
  exact dep_high bb hi a b c s hl hv.z (by rw [← hs]; unfold dep; rw [if_neg (by omega), if_neg (by omega)]) W' h1.2.2
end
/-- What a round ends with, and that it leaves the loop's own blocks. -/
def YC (B : Nat) (J Jx : Nat → World → Prop) (Kp : World → World → Prop) (k : Nat) (W1 : World) (b : Bool) (W' : World) : Prop := (b = true ∧ J k W' ∧ Kp W1 W' ∧ KeepsFrom B W1 W') ∨ (b = false ∧ Jx k W' ∧ KeepsFrom B W1 W')
theorem yc_of {B k n l : Nat} {J Jx : Nat → World → Prop} {Kp : World → World → Prop} {W1 : World} {args : Array Value} (h : YieldAt Fence.wide n Try.prog l args W1 fun e W' => (e = .returned (.bool true) ∧ J k W' ∧ Kp W1 W' ∧ KeepsFrom B W1 W') ∨ (e = .returned (.bool false) ∧ Jx k W' ∧ KeepsFrom B W1 W')) :
    YieldAt Fence.wide n Try.prog l args W1 fun e W' => ∃ b, e = .returned (.bool b) ∧ YC B J Jx Kp k W1 b W' :=
  h.mono (by rintro e W' (⟨rfl, h1, h2⟩ | ⟨rfl, h1⟩); exact ⟨true, rfl, .inl ⟨rfl, h1, h2⟩⟩; exact ⟨false, rfl, .inr ⟨rfl, h1⟩⟩)
/-- Between two edges. -/
structure Sd (J : Nat → World → Prop) (n0 g l : Nat) (A : World) (k : Nat) (W : World) : Prop where
  j : J k W
  y : Boxed W g 91 (.func (.yield l) #[] #[])
  z : Kz n0 28 A W
theorem Sd.own {J : Nat → World → Prop} {n0 g l B B' : Nat} {A : World} (hJ : OwnFrom B J) (hB : B ≤ B') (h1 : n0 ≤ A.heap.size) (h2 : n0 ≤ B') : OwnFrom B' (Sd J n0 g l A) :=
  fun k W W' row h hg hr => ⟨hJ k W W' row h.j hg (fun r e => ⟨Nat.le_trans hB (hr r e).1, (hr r e).2⟩), box_row h.y hg (fun r e => (hr r e).2), h.z.row h1 hg (fun r e => ⟨Nat.le_trans h2 (hr r e).1, (hr r e).2⟩)⟩
set_option maxRecDepth 100000 in
set_option maxHeartbeats 4000000 in
theorem sides_seq (n : Nat) (hn : 2 ≤ n) (bb : Nat) (A : Option Addr) (C : Nat) (xs : List (Int × Int)) (lo hi : Int) (hlen : xs.length ≤ 9223372036854775806) (hco : ∀ j, j < xs.length → co (px xs j) ∧ co (py xs j)) (clo : co lo) (chi : co hi)
    (w0 w : World) (hx : SlS w0 A xs) (h0 : Below w0.heap.size w0 w) (hbox : w.heap[bb]? = some (.cells #[.slice A xs.length C, .int .i64 lo, .int .i64 hi] 47 (0, 0))) :
    SeqN n Try.prog 48 #[.pointer (some ⟨bb, 0, none⟩)] (xs.length + 2) (DepA xs lo hi w0.heap.size) (Kz w0.heap.size 28) w := by
  intro l J Jx W hW hJ hJx hY hJ0
  have HBX := Lib.hid (show W.heap[bb]? = some (.cells #[.slice A xs.length C, .int .i64 lo, .int .i64 hi] 47 (0, 0)) by rw [hW.block bb (Array.getElem?_eq_some_iff.1 hbox).1]; exact hbox)
  have HB0 := Lib.hid (show Below w0.heap.size w0 W from h0.trans (hW.mono h0.size))
  have HX := Lib.hid hx
  have HJ := Lib.hid hJ
  have HJx := Lib.hid hJx
  have HY := Lib.hid hY
  have H0 := Lib.hid hJ0
  have HCO := Lib.hid hco
  have HLO := Lib.hid clo
  have HHI := Lib.hid chi
  have hc0 := (cells3 HBX.out).1
  have hlb : bb < W.heap.size := block_lt hc0
  have hmf : ∀ (fn : Fn) (first cap : Array Value) (w : World), (Instr.makeFunc fn first cap).run Try.prog w = .ok (.func fn first cap) w := fun _ _ _ _ => rfl
  clear hW hJ hJx hY hJ0 h0 hx hbox hco clo chi
  refine callsIn_of_wp_marks Try.func48 rfl trivial ?_ rfl
  simp only [Try.ntmps48, List.size_toArray, List.length_cons, List.length_nil, Nat.reduceAdd, Nat.reduceSub, Array.replicate_succ, Array.replicate_zero, List.push_toArray, List.append_toArray, List.nil_append, List.cons_append]
  have hmx : Try.prog.follows .mixedOrders = true := by kernel_rfl
  gi_wp2_with fail
  have hb1 := below_new W (.cells #[.func (.yield l) #[] #[]] 91)
  have y1 := Boxed.new W 91 (.func (.yield l) #[] #[])
  have HJ1 := Lib.hid (HJ.out 0 _ _ none H0.out (grown_of hb1) (by rintro r e; cases e))
  generalize W.alloc (.cells #[.func (.yield l) #[] #[]] 91) = w1 at *
  refine ⟨trivial, fun _ => by omega, (callsIn_wide.2 (edges_any A xs.length C w1)).mono ?_⟩
  rintro e w2 ⟨rfl, hw2⟩
  have hb2 : Below w1.heap.size w1 w2 := by rw [hw2]; exact below_new _ _
  have x3 : Boxed w2 w1.heap.size 45 (.slice A xs.length C) := by rw [hw2]; exact Boxed.new _ _ _
  replace y1 := y1.kept (grown_of hb2) (by simp)
  replace HJ1 := Lib.hid (HJ.out 0 _ _ none HJ1.out (grown_of hb2) (by rintro r e; cases e))
  have HB2 := Lib.hid (on_below hb1 hb2)
  have HW2 := Lib.hid (show Below w0.heap.size w0 w2 from HB0.out.trans (HB2.out.mono HB0.out.size))
  have HX3 := Lib.hid x3
  have HY1 := Lib.hid y1
  clear hw2 hb1 hb2 hc0 x3 y1
  generalize w1.heap.size = g3 at *
  clear w1 H0
  have hs0 : w0.heap.size ≤ W.heap.size := HB0.out.size
  have hs2 : W.heap.size ≤ w2.heap.size := HB2.out.size
  have HBX2 := Lib.hid (show w2.heap[bb]? = some (.cells #[.slice A xs.length C, .int .i64 lo, .int .i64 hi] 47 (0, 0)) by rw [HB2.out.block bb hlb]; exact HBX.out)
  have HSQ := Lib.hid (edges_seq (n - 1) (by omega) g3 A C xs hlen w0 w2 HX.out HW2.out HX3.out)
  clear HBX HB0 HX HX3
  gi_wp2_with fail
  refine range_n (gf := 70) (lb := #[.pointer (some ⟨g3, 0, none⟩)]) rfl edges_enter HSQ.out (Below.refl _ _) (fun k args W e => by rw [e]; rfl) Kz.trans (fun W l o o' hl h1 h2 => Kz.put o' (by omega) h1 h2)
    (Sd J w0.heap.size W.heap.size l w2) Jx (Sd.own HJ.out hs2 (by omega) (by omega)) (fun k V V' row h hg hr => HJx.out k V V' row h hg (fun r e => ⟨Nat.le_trans hs2 (hr r e).1, (hr r e).2⟩))
    ⟨HJ1.out, HY1.out, Kz.refl _⟩ ?round ?done ?stop
  case round =>
    rintro l' k args V hl hk hI rfl
    have HI := Lib.hid hI
    clear hI HSQ HJ1 HY1
    simp only [encE]
    have hsV : w2.heap.size ≤ V.heap.size := HI.out.z.size
    obtain ⟨x, hx⟩ : ∃ v, v = (gdS xs k).1 := ⟨_, rfl⟩
    obtain ⟨y, hy⟩ : ∃ v, v = (gdS xs k).2 := ⟨_, rfl⟩
    obtain ⟨u, hu⟩ : ∃ v, v = (gdS xs (nx xs.length k)).1 := ⟨_, rfl⟩
    obtain ⟨z, hz⟩ : ∃ v, v = (gdS xs (nx xs.length k)).2 := ⟨_, rfl⟩
    have HXY := Lib.hid (And.intro hx (And.intro hy (And.intro hu hz)))
    rw [← hx, ← hy, ← hu, ← hz]
    clear hx hy hu hz
    gi_wp2
    have h2 := two_new V x y u z
    refine ⟨keeps_of h2, Kz.of h2 (by omega), ?_⟩
    rintro o Wb ho hc hsome hg hoth
    have q0 : ((V.alloc (.cells #[.int .i64 x, .int .i64 y] 55)).alloc (.cells #[.int .i64 u, .int .i64 z] 55)).heap[V.heap.size]? = some (.cells #[.int .i64 x, .int .i64 y] 55 (0, 0)) := (Below.heap_alloc _ _ _ (by simp)).trans (World.alloc_heap_new V _)
    have q1 : ((V.alloc (.cells #[.int .i64 x, .int .i64 y] 55)).alloc (.cells #[.int .i64 u, .int .i64 z] 55)).heap[V.heap.size + 1]? = some (.cells #[.int .i64 u, .int .i64 z] 55 (0, 0)) := by
      have := World.alloc_heap_new (V.alloc (.cells #[.int .i64 x, .int .i64 y] 55)) (.cells #[.int .i64 u, .int .i64 z] 55); rwa [World.size_alloc] at this
    have HQ0 := Lib.hid (show Wb.heap[V.heap.size]? = some (.cells #[.int .i64 (gdS xs k).1, .int .i64 (gdS xs k).2] 55 (0, 0)) by rw [← HXY.out.1, ← HXY.out.2.1, hoth _ (fun e => by rw [← e] at ho; rw [q0] at ho; cases ho; cases hc)]; exact q0)
    have HQ1 := Lib.hid (show Wb.heap[V.heap.size + 1]? = some (.cells #[.int .i64 (gdS xs (nx xs.length k)).1, .int .i64 (gdS xs (nx xs.length k)).2] 55 (0, 0)) by rw [← HXY.out.2.2.1, ← HXY.out.2.2.2, hoth _ (fun e => by rw [← e] at ho; rw [q1] at ho; cases ho; cases hc)]; exact q1)
    have HZb := Lib.hid (show Kz w0.heap.size 28 w2 Wb from (HI.out.z.trans (Kz.of h2 (by omega))).row (by omega) hg (fun r e => by cases e; exact ⟨by omega, o, ho, hc⟩))
    have HYb := Lib.hid (box_row ((HI.out.y.kept (grown_of h2) (by simp))) hg (row_one ho hc))
    have HJb := Lib.hid (HJ.out k _ _ (some l') (HJ.out k _ _ none HI.out.j (grown_of h2) (by rintro r e; cases e)) hg (fun r e => by cases e; exact ⟨by omega, o, ho, hc⟩))
    clear ho hc hsome hg hoth h2 q0 q1 HI HXY
    have d4 := HYb.out.cell
    obtain ⟨fn, tmps, assign, body, hy, hR⟩ := yc_of (HY.out k _ Wb (by omega) HJb.out (depA_edge hk HCO.out (0, 0) (0, 0) HQ0.out HQ1.out))
    have HR := Lib.hid hR
    clear hR HQ0 HQ1 HJb
    gi_wp2_with fail
    refine ⟨(fun h => by omega), (round_in (m := n - 1 - 1) HR.out).mono ?_⟩
    rintro e W3 ⟨b, rfl, hYB⟩
    rcases hYB with ⟨rfl, h1, h2, h3⟩ | ⟨rfl, h1, h3⟩
    · have HG := Lib.hid (show KeepsFrom w2.heap.size Wb W3 ∧ Kz w0.heap.size 28 Wb W3 ∧ Sd J w0.heap.size W.heap.size l w2 (k + 1) W3 from ⟨⟨h3.size, fun j o hj => h3.same j o (by omega)⟩, h2, h1, h2.box (by decide) HYb.out, HZb.out.trans h2⟩)
      clear h1 h2 h3 hy HR d4 HYb HZb
      gi_wp2
      exact HG.out
    · have HG := Lib.hid (show KeepsFrom w2.heap.size Wb W3 ∧ Jx (k + 1) W3 from ⟨⟨h3.size, fun j o hj => h3.same j o (by omega)⟩, h1⟩)
      clear h1 h3 hy HR d4 HYb HZb
      gi_wp2
      exact HG.out
  case done =>
    rintro D V hD hI hK
    have d4 := hI.y.cell
    have hbx := hI.z.same bb _ _ _ (by decide) HBX2.out
    obtain ⟨fn, tmps, assign, body, hy, hR⟩ := yc_of (HY.out xs.length _ V (by omega) hI.j (depA_low (n0 := w0.heap.size) HLO.out (0, 0) hbx))
    have HR := Lib.hid hR
    have HI := Lib.hid hI
    clear hR hI hbx
    gi_wp2_with fail
    refine ⟨fun _ => by omega, (round_room (m := n - 1) HR.out).mono ?_⟩
    rintro e W3 ⟨b, rfl, hYB⟩
    clear hy HR
    rcases hYB with ⟨rfl, h1, h2, h3⟩ | ⟨rfl, h1, h3⟩
    · have y3 := h2.box (by decide) HI.out.y
      have d5 := y3.cell
      have hbx := h2.same bb _ _ _ (by decide) (HI.out.z.same bb _ _ _ (by decide) HBX2.out)
      obtain ⟨fn2, tmps2, assign2, body2, hy2, hR⟩ := yc_of (HY.out (xs.length + 1) _ W3 (by omega) h1 (depA_high (n0 := w0.heap.size) HHI.out (0, 0) hbx))
      have HR := Lib.hid hR
      have K3 := Lib.hid (h3.same D _ (by omega) hK rfl)
      clear hR hbx h1 h2 h3 y3 d4 hK
      gi_wp2_with fail
      refine ⟨fun _ => by omega, (round_room (m := n - 1) HR.out).mono ?_⟩
      rintro e W4 ⟨b, rfl, hYB⟩
      clear hy2 HR d5
      rcases hYB with ⟨rfl, h1, h2, h3⟩ | ⟨rfl, h1, h3⟩
      · have K4 := h3.same D _ (by omega) K3.out rfl
        have HG := Lib.hid (HJ.out (xs.length + 2) W4 _ (some D) h1 (grownBy_putObj' W4 D (.deferred none)) (fun r e => by cases e; exact ⟨by omega, _, K4, rfl⟩))
        clear h1 h2 h3
        gi_wp2
        refine ⟨by simp, .inl ⟨_, _, rfl, run_takeDeferred K4, ?_⟩⟩
        exact ⟨_, results_none rfl _ _ _, ⟨_, rfl⟩, .inl HG.out⟩
      · have K4 := h3.same D _ (by omega) K3.out rfl
        have HG := Lib.hid (HJx.out (xs.length + 2) W4 _ (some D) h1 (grownBy_putObj' W4 D (.deferred none)) (fun r e => by cases e; exact ⟨by omega, _, K4, rfl⟩))
        clear h1 h3
        gi_wp2
        refine ⟨by simp, .inl ⟨_, _, rfl, run_takeDeferred K4, ?_⟩⟩
        exact ⟨_, results_none rfl _ _ _, ⟨_, rfl⟩, .inr ⟨_, Nat.le_refl _, HG.out⟩⟩
    · have K4 := h3.same D _ (by omega) hK rfl
      have HG := Lib.hid (HJx.out (xs.length + 1) W3 _ (some D) h1 (grownBy_putObj' W3 D (.deferred none)) (fun r e => by cases e; exact ⟨by omega, _, K4, rfl⟩))
      clear h1 h3 d4
      gi_wp2
      refine ⟨by simp, .inl ⟨_, _, rfl, run_takeDeferred K4, ?_⟩⟩
      exact ⟨_, results_none rfl _ _ _, ⟨_, rfl⟩, .inr ⟨_, by omega, HG.out⟩⟩
  case stop =>
    rintro D k V hD hk hI hK
    gi_wp2
    refine ⟨by simp, .inl ⟨_, _, rfl, run_takeDeferred hK, ?_⟩⟩
    exact ⟨_, results_none rfl _ _ _, ⟨_, rfl⟩, .inr ⟨k, by omega, HJx.out k V _ (some D) hI (grownBy_putObj' _ _ _) (fun r e => by cases e; exact ⟨by omega, _, hK, rfl⟩)⟩⟩
end Go.Proofs.Ytgikpcoaennkgaa
