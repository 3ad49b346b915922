/-
  Package scene: whole, compare, Total. Package scene: firstLeast. Package scene: Worst, Keeps.
-/
import Derived.Test.YtiffgcipdamngaaZScnZC
import Derived.Test.YtiffgcipdamngaaZScnZA
import Derived.Test.YtiffgcipdamngaaZShpPA
import Derived.Deep.RegionHeld3
namespace Go.Proofs.Ytiffgcipdamngaa
open Go.RowKit Go.Sort Go.Shelf
open Go.RowKit (Below)
set_option linter.unusedVariables false
set_option linter.unusedSimpArgs false

attribute [local go_sem] Oper.semAt_some
set_option maxRecDepth 100000 in
set_option maxHeartbeats 2000000 in
theorem whole_is (n : Int) (w : World) :
    Calls Try.prog 13 #[.int .i64 n] w fun e_ w' => e_ = .returned (.agg #[.int .i64 n, .int .i64 1]) ∧ Below w.heap.size w w' := by
  have o0 : World.cell? (w.alloc (.cells #[.int .i64 0, .int .i64 0] 32)) ⟨w.heap.size, 0, none⟩ = some (.int .i64 0) := by simp [go_sem]
  have fo0 : World.frozen? (w.alloc (.cells #[.int .i64 0, .int .i64 0] 32)) ⟨w.heap.size, 0, none⟩ = false := by simp [go_sem]
  have o1 : World.cell? (w.alloc (.cells #[.int .i64 0, .int .i64 0] 32)) ⟨w.heap.size, 1, none⟩ = some (.int .i64 0) := by simp [go_sem]
  have fo1 : World.frozen? (w.alloc (.cells #[.int .i64 0, .int .i64 0] 32)) ⟨w.heap.size, 1, none⟩ = false := by simp [go_sem]
  have lo : w.heap.size < (w.alloc (.cells #[.int .i64 0, .int .i64 0] 32)).heap.size := by simp <;> omega
  have HB := Lib.hid (show Below w.heap.size w (w.alloc (.cells #[.int .i64 0, .int .i64 0] 32)) from ((Below.refl _ _).alloc (by simp <;> omega) _))
  go_enter Try.func13, Try.ntmps13
  go_upto_region 1 with fail
  generalize w.alloc (.cells #[.int .i64 0, .int .i64 0] 32) = w1 at *
  go_wp2_with fail
  refine bodyPost_ret (v := .agg #[.int .i64 n, .int .i64 1]) (by simp [results, Try.results13, go_sem, o0, o1, lo]) rfl ⟨rfl, ?_⟩
  repeat (first | (with_reducible exact HB.out) | (refine Below.setCell ?_ (by first | exact Nat.le_refl _ | (simp; done) | (simp; omega) | omega) _) | (refine Below.alloc ?_ (by first | exact Nat.le_refl _ | (simp; done) | (simp; omega) | omega) _) | (refine Below.drew ?_) | (refine below_drewN' ?_ _))
set_option maxRecDepth 100000 in
set_option maxHeartbeats 2000000 in
theorem scmp_is (a b c d s : Int) (ha : vld a b = true) (hc : vld c d = true) (hs : sgn (a * d) (c * b) = s) (w : World) :
    Calls Try.prog 19 #[.agg #[.int .i64 a, .int .i64 b], .agg #[.int .i64 c, .int .i64 d]] w fun e_ w' => e_ = .returned (.int .i64 s) ∧ Below w.heap.size w w' := by
  have i1 := vld_i64 ha
  have i2 := vld_i64 hc
  have e1 : cmpR (vld a b && vld c d) a b c d = s := by rw [ha, hc]; exact hs
  have e2 : cmpE (vld a b && vld c d) = 0 := by rw [ha, hc]; rfl
  have HC := Lib.hid (fun W => cmp_any a b c d W i1.1 i1.2 i2.1 i2.2)
  rw [e1, e2] at HC
  clear e1 e2 hs ha hc i1 i2
  have p0 : World.cell? ((w.alloc (.cells #[.int .i64 a, .int .i64 b] 32)).alloc (.cells #[.int .i64 c, .int .i64 d] 32)) ⟨w.heap.size, 0, none⟩ = some (.int .i64 a) := by simp [go_sem]
  have p1 : World.cell? ((w.alloc (.cells #[.int .i64 a, .int .i64 b] 32)).alloc (.cells #[.int .i64 c, .int .i64 d] 32)) ⟨w.heap.size, 1, none⟩ = some (.int .i64 b) := by simp [go_sem]
  have lp : w.heap.size < ((w.alloc (.cells #[.int .i64 a, .int .i64 b] 32)).alloc (.cells #[.int .i64 c, .int .i64 d] 32)).heap.size := by simp <;> omega
  have q0 : World.cell? ((w.alloc (.cells #[.int .i64 a, .int .i64 b] 32)).alloc (.cells #[.int .i64 c, .int .i64 d] 32)) ⟨w.heap.size + 1, 0, none⟩ = some (.int .i64 c) := by simp [go_sem]
  have q1 : World.cell? ((w.alloc (.cells #[.int .i64 a, .int .i64 b] 32)).alloc (.cells #[.int .i64 c, .int .i64 d] 32)) ⟨w.heap.size + 1, 1, none⟩ = some (.int .i64 d) := by simp [go_sem]
  have lq : w.heap.size + 1 < ((w.alloc (.cells #[.int .i64 a, .int .i64 b] 32)).alloc (.cells #[.int .i64 c, .int .i64 d] 32)).heap.size := by simp <;> omega
  have HB := Lib.hid (show Below w.heap.size w ((w.alloc (.cells #[.int .i64 a, .int .i64 b] 32)).alloc (.cells #[.int .i64 c, .int .i64 d] 32)) from (((Below.refl _ _).alloc (by simp <;> omega) _).alloc (by simp <;> omega) _))
  go_enter Try.func19, Try.ntmps19
  go_upto_region 1 with fail
  generalize (w.alloc (.cells #[.int .i64 a, .int .i64 b] 32)).alloc (.cells #[.int .i64 c, .int .i64 d] 32) = w1 at *
  go_wp2_with fail
  with_reducible refine (HC.out _).mono ?_
  rintro e_ w2 ⟨rfl, hb⟩
  replace HB := Lib.hid (on_below HB.out hb)
  replace p0 := keepc hb p0
  replace p1 := keepc hb p1
  replace q0 := keepc hb q0
  replace q1 := keepc hb q1
  replace lp := Nat.lt_of_lt_of_le lp hb.size
  replace lq := Nat.lt_of_lt_of_le lq hb.size
  clear hb
  go_wp2_with fail
  go_ret
  exact ⟨rfl, HB.out⟩
set_option maxRecDepth 100000 in
set_option maxHeartbeats 2000000 in
theorem total_0 (SA : Option Addr) (SC : Nat) (S : List Bv) (NA : Option Addr) (NC : Nat) (N : List Sv) (ex ey ez : Int) (OA : Option Addr) (OC : Nat) (O : List Bv) (hs : Sml S N) (ho0 : O.length ≤ 1000) (E : Int) (hE : ScE S N ex ey ez O E) (h0 : E ≠ 0) (w : World) (hn : SvS w NA N) (hm : BdS w SA S) (ho : BdS w OA O) :
    Calls Try.prog 7 #[.agg #[.slice SA S.length SC, .slice NA N.length NC], .agg #[.int .i64 ex, .int .i64 ey, .int .i64 ez], .slice OA O.length OC] w fun e_ w' => e_ = .returned (.tuple #[.agg #[.int .i64 0, .int .i64 0], .int .i64 E]) ∧ Below w.heap.size w w' := by
  have CE := Lib.hid (fun W (a : SvS W NA N) (b : BdS W SA S) (c : BdS W OA O) => err_is SA SC S NA NC N ex ey ez OA OC O hs ho0 E hE W a b c)
  have z0 : (E != 0) = true := by simp [h0]
  clear hs hE h0
  have HN := Lib.hid hn
  clear hn
  have HM := Lib.hid hm
  clear hm
  have HO := Lib.hid ho
  clear ho
  have p0 : World.cell? (((w.alloc (.cells #[.slice SA S.length SC, .slice NA N.length NC] 25)).alloc (.cells #[.int .i64 ex, .int .i64 ey, .int .i64 ez] 27)).alloc (.cells #[.int .i64 0, .int .i64 0] 32)) ⟨w.heap.size, 0, none⟩ = some (.slice SA S.length SC) := by simp [go_sem]
  have p1 : World.cell? (((w.alloc (.cells #[.slice SA S.length SC, .slice NA N.length NC] 25)).alloc (.cells #[.int .i64 ex, .int .i64 ey, .int .i64 ez] 27)).alloc (.cells #[.int .i64 0, .int .i64 0] 32)) ⟨w.heap.size, 1, none⟩ = some (.slice NA N.length NC) := by simp [go_sem]
  have lp : w.heap.size < (((w.alloc (.cells #[.slice SA S.length SC, .slice NA N.length NC] 25)).alloc (.cells #[.int .i64 ex, .int .i64 ey, .int .i64 ez] 27)).alloc (.cells #[.int .i64 0, .int .i64 0] 32)).heap.size := by simp <;> omega
  have q0 : World.cell? (((w.alloc (.cells #[.slice SA S.length SC, .slice NA N.length NC] 25)).alloc (.cells #[.int .i64 ex, .int .i64 ey, .int .i64 ez] 27)).alloc (.cells #[.int .i64 0, .int .i64 0] 32)) ⟨w.heap.size + 1, 0, none⟩ = some (.int .i64 ex) := by simp [go_sem]
  have q1 : World.cell? (((w.alloc (.cells #[.slice SA S.length SC, .slice NA N.length NC] 25)).alloc (.cells #[.int .i64 ex, .int .i64 ey, .int .i64 ez] 27)).alloc (.cells #[.int .i64 0, .int .i64 0] 32)) ⟨w.heap.size + 1, 1, none⟩ = some (.int .i64 ey) := by simp [go_sem]
  have q2 : World.cell? (((w.alloc (.cells #[.slice SA S.length SC, .slice NA N.length NC] 25)).alloc (.cells #[.int .i64 ex, .int .i64 ey, .int .i64 ez] 27)).alloc (.cells #[.int .i64 0, .int .i64 0] 32)) ⟨w.heap.size + 1, 2, none⟩ = some (.int .i64 ez) := by simp [go_sem]
  have lq : w.heap.size + 1 < (((w.alloc (.cells #[.slice SA S.length SC, .slice NA N.length NC] 25)).alloc (.cells #[.int .i64 ex, .int .i64 ey, .int .i64 ez] 27)).alloc (.cells #[.int .i64 0, .int .i64 0] 32)).heap.size := by simp <;> omega
  have o0 : World.cell? (((w.alloc (.cells #[.slice SA S.length SC, .slice NA N.length NC] 25)).alloc (.cells #[.int .i64 ex, .int .i64 ey, .int .i64 ez] 27)).alloc (.cells #[.int .i64 0, .int .i64 0] 32)) ⟨w.heap.size + 1 + 1, 0, none⟩ = some (.int .i64 0) := by simp [go_sem]
  have fo0 : World.frozen? (((w.alloc (.cells #[.slice SA S.length SC, .slice NA N.length NC] 25)).alloc (.cells #[.int .i64 ex, .int .i64 ey, .int .i64 ez] 27)).alloc (.cells #[.int .i64 0, .int .i64 0] 32)) ⟨w.heap.size + 1 + 1, 0, none⟩ = false := by simp [go_sem]
  have o1 : World.cell? (((w.alloc (.cells #[.slice SA S.length SC, .slice NA N.length NC] 25)).alloc (.cells #[.int .i64 ex, .int .i64 ey, .int .i64 ez] 27)).alloc (.cells #[.int .i64 0, .int .i64 0] 32)) ⟨w.heap.size + 1 + 1, 1, none⟩ = some (.int .i64 0) := by simp [go_sem]
  have fo1 : World.frozen? (((w.alloc (.cells #[.slice SA S.length SC, .slice NA N.length NC] 25)).alloc (.cells #[.int .i64 ex, .int .i64 ey, .int .i64 ez] 27)).alloc (.cells #[.int .i64 0, .int .i64 0] 32)) ⟨w.heap.size + 1 + 1, 1, none⟩ = false := by simp [go_sem]
  have lo : w.heap.size + 1 + 1 < (((w.alloc (.cells #[.slice SA S.length SC, .slice NA N.length NC] 25)).alloc (.cells #[.int .i64 ex, .int .i64 ey, .int .i64 ez] 27)).alloc (.cells #[.int .i64 0, .int .i64 0] 32)).heap.size := by simp <;> omega
  have HB := Lib.hid (show Below w.heap.size w (((w.alloc (.cells #[.slice SA S.length SC, .slice NA N.length NC] 25)).alloc (.cells #[.int .i64 ex, .int .i64 ey, .int .i64 ez] 27)).alloc (.cells #[.int .i64 0, .int .i64 0] 32)) from ((((Below.refl _ _).alloc (by simp <;> omega) _).alloc (by simp <;> omega) _).alloc (by simp <;> omega) _))
  go_enter Try.func7, Try.ntmps7
  go_upto_region 1 with fail
  generalize ((w.alloc (.cells #[.slice SA S.length SC, .slice NA N.length NC] 25)).alloc (.cells #[.int .i64 ex, .int .i64 ey, .int .i64 ez] 27)).alloc (.cells #[.int .i64 0, .int .i64 0] 32) = w1 at *
  replace HN := Lib.hid (HN.out.below HB.out)
  replace HM := Lib.hid (HM.out.below HB.out)
  replace HO := Lib.hid (HO.out.below HB.out)
  go_wp2_with fail
  with_reducible refine (CE.out _ HN.out HM.out HO.out).mono ?_
  rintro e_ w2 ⟨rfl, hb⟩
  replace HB := Lib.hid (on_below HB.out hb)
  replace HN := Lib.hid (HN.out.below hb)
  replace HM := Lib.hid (HM.out.below hb)
  replace HO := Lib.hid (HO.out.below hb)
  replace p0 := keepc hb p0
  replace p1 := keepc hb p1
  replace q0 := keepc hb q0
  replace q1 := keepc hb q1
  replace q2 := keepc hb q2
  replace o0 := keepc hb o0
  replace o1 := keepc hb o1
  replace fo0 := keepf hb lo fo0
  replace fo1 := keepf hb lo fo1
  replace lp := Nat.lt_of_lt_of_le lp hb.size
  replace lq := Nat.lt_of_lt_of_le lq hb.size
  replace lo := Nat.lt_of_lt_of_le lo hb.size
  clear hb
  go_wp2_with fail
  refine bodyPost_ret (v := .tuple #[.agg #[.int .i64 0, .int .i64 0], .int .i64 E]) (by simp [results, Try.results7, go_sem, o0, o1, lo]) rfl ⟨rfl, ?_⟩
  repeat (first | (with_reducible exact HB.out) | (refine Below.setCell ?_ (by first | exact Nat.le_refl _ | (simp; done) | (simp; omega) | omega) _) | (refine Below.alloc ?_ (by first | exact Nat.le_refl _ | (simp; done) | (simp; omega) | omega) _) | (refine Below.drew ?_) | (refine below_drewN' ?_ _))
/-- Total's own blocks: the piece, the result, the sum, the minutes. -/
structure Lt (gp gs : Nat) (PA : Value) (NV : Value) (f : Sv → Int) (N : List Sv) (w0 : World) (k : Nat) (W : World) : Prop where
  p : W.heap[gp]? = some (.cells #[PA, NV] 25 (0, 0))
  o : W.heap[gp + 1 + 1]? = some (.cells #[.int .i64 0, .int .i64 0] 32 (0, 0))
  s : W.heap[gs]? = some (.cells #[.int .i64 (qN (tsum f N k) 100), .int .i64 (qD (tsum f N k) 100)] 32 (0, 0))
  a : W.heap[gs + 1]? = some (.cells #[.int .i64 (msum N k)] 3 (0, 0))
  bel : Below w0.heap.size w0 W
section
variable {gp gs k : Nat} {PA NV : Value} {f : Sv → Int} {N : List Sv} {w0 W W' : World}
theorem Lt.on (h : Lt gp gs PA NV f N w0 k W) (hb : Below W.heap.size W W') : Lt gp gs PA NV f N w0 k W' := ⟨blk_on h.p hb, blk_on h.o hb, blk_on h.s hb, blk_on h.a hb, on_below h.bel hb⟩
theorem Lt.row {row : Option Nat} (h : Lt gp gs PA NV f N w0 k W) (hg : W.grownBy W' row) (hr : ∀ r, row = some r → w0.heap.size ≤ r ∧ ∃ o : Obj, W.heap[r]? = some o ∧ o.isCells = false) : Lt gp gs PA NV f N w0 k W' :=
  ⟨blk_row h.p hg (fun r e => (hr r e).2), blk_row h.o hg (fun r e => (hr r e).2), blk_row h.s hg (fun r e => (hr r e).2), blk_row h.a hg (fun r e => (hr r e).2), h.bel.grown hg h.bel.size (fun j e => (hr j e).1)⟩
theorem Lt.own {B : Nat} (hB : w0.heap.size ≤ B) : OwnFrom B (fun k W => Lt gp gs PA NV f N w0 k W) :=
  fun k W W' row h hg hr => h.row hg (fun r e => ⟨Nat.le_trans hB (hr r e).1, (hr r e).2⟩)
theorem Lt.put (h : Lt gp gs PA NV f N w0 k W) (hp : w0.heap.size ≤ gp) (hg : gp + 1 + 1 < gs) {n d v : Int} (hn : qN (tsum f N (k + 1)) 100 = n) (hd : qD (tsum f N (k + 1)) 100 = d) (hv : msum N (k + 1) = v) :
    Lt gp gs PA NV f N w0 (k + 1) (((W.setCell ⟨gs, 0, none⟩ (.int .i64 n)).setCell ⟨gs, 1, none⟩ (.int .i64 d)).setCell ⟨gs + 1, 0, none⟩ (.int .i64 v)) := by
  subst hn hd hv
  exact ⟨blk_far (blk_far (blk_far h.p (by omega)) (by omega)) (by omega), blk_far (blk_far (blk_far h.o (by omega)) (by omega)) (by omega), blk_far (set_cells (set_cells h.s 0 _) 1 _) (by omega), set_cells (blk_far (blk_far h.a (by omega)) (by omega)) 0 _,
    ((h.bel.setCell (by show w0.heap.size ≤ gs; omega) _).setCell (by show w0.heap.size ≤ gs; omega) _).setCell (by show w0.heap.size ≤ gs + 1; omega) _⟩
theorem Lt.kw (h : Lt gp gs PA NV f N w0 k W) {b : Nat} {u v x : Value} (hb : b ≤ gs) : Kw b W (((W.setCell ⟨gs, 0, none⟩ u).setCell ⟨gs, 1, none⟩ v).setCell ⟨gs + 1, 0, none⟩ x) :=
  ((Kw.set 0 u hb (Or.inl rfl) h.s).trans (Kw.set 1 v hb (Or.inl rfl) (set_cells h.s _ _))).trans (Kw.set 0 x (by omega) (Or.inr rfl) (blk_far (blk_far h.a (by omega)) (by omega)))
end
theorem ks0 {W : World} {g : Nat} {f : Sv → Int} {N : List Sv} (h : W.heap[g]? = some (.cells #[.int .i64 0, .int .i64 1] 32 (0, 0))) : W.heap[g]? = some (.cells #[.int .i64 (qN (tsum f N 0) 100), .int .i64 (qD (tsum f N 0) 100)] 32 (0, 0)) := by
  rw [show tsum f N 0 = 0 from rfl, show qN 0 100 = 0 by decide, show qD 0 100 = 1 by decide]
  exact h
/-- Only the way that goes on. -/
def OnlyN (Q : Exit → Act → World → Prop) : Exit → Act → World → Prop
  | .normal, a, V => Q .normal a V
  | _, _, _ => False
theorem wpIn_onlyN {n : Nat} {P : Program} {c : Code} {Q : Exit → Act → World → Prop} {a : Act} {w : World} (h : c.wp P (OnlyN Q) a w) : c.wpIn Fence.wide n P Q a w :=
  wpIn_mono (wpIn_wide.2 h) (by rintro e a w h; cases e <;> first | exact h | exact h.elim)
set_option maxRecDepth 100000 in
set_option maxHeartbeats 4000000 in
theorem total_1 (SA : Option Addr) (SC : Nat) (S : List Bv) (NA : Option Addr) (NC : Nat) (N : List Sv) (ex ey ez : Int) (OA : Option Addr) (OC : Nat) (O : List Bv) (hs : Sml S N) (ho0 : O.length ≤ 1000) (hok : Ok3 S N ex ey ez O) (hlm : Lim S.length O.length N) (rn rd : Int) (hrn : qN (tsum (shn ex ey ez S O) N N.length) (100 * msum N N.length) = rn) (hrd : qD (tsum (shn ex ey ez S O) N N.length) (100 * msum N N.length) = rd) (w : World) (hn : SvS w NA N) (hm : BdS w SA S) (ho : BdS w OA O) :
    Calls Try.prog 7 #[.agg #[.slice SA S.length SC, .slice NA N.length NC], .agg #[.int .i64 ex, .int .i64 ey, .int .i64 ez], .slice OA O.length OC] w fun e_ w' => e_ = .returned (.tuple #[.agg #[.int .i64 rn, .int .i64 rd], .int .i64 0]) ∧ Below w.heap.size w w' := by
  have CE := Lib.hid (fun W (a : SvS W NA N) (b : BdS W SA S) (c : BdS W OA O) => err_is SA SC S NA NC N ex ey ez OA OC O hs ho0 0 (Or.inr (Or.inr ⟨hok, hlm, rfl⟩)) W a b c)
  have hn20 : N.length ≤ 20 := hok.1.2.1
  have hsco := hok.1.2.2.2.2
  have hsh : ∀ k, k < N.length → 0 ≤ (shn ex ey ez S O) (gdV N k) ∧ (shn ex ey ez S O) (gdV N k) ≤ 100 := fun k hk => shn_bd ex ey ez S O (hsco k hk).2.2.1
  have HTS := Lib.hid (tsum_bd hsco hsh)
  have HMS := Lib.hid (msum_bd hsco)
  have HSC := Lib.hid hsco
  have HSH := Lib.hid hsh
  have HRR := Lib.hid (And.intro hrn hrd)
  have HN0 := Lib.hid (show 0 < N.length from hok.1.1)
  have HOK := Lib.hid hok
  have HLM := Lib.hid hlm
  have HN := Lib.hid hn
  have HM := Lib.hid hm
  have HO := Lib.hid ho
  clear hok hlm hn hm ho hs hsco hsh hrn hrd
  refine (callsIn_wide (n := 8)).1 ?_
  refine callsIn_of_wp_marks Try.func7 rfl trivial ?_ rfl
  simp only [Try.ntmps7, List.size_toArray, List.length_cons, List.length_nil, Nat.reduceAdd, Nat.reduceSub, Array.replicate_succ, Array.replicate_zero, List.push_toArray, List.append_toArray, List.nil_append, List.cons_append]
  have hmx : Try.prog.follows .mixedOrders = true := by kernel_rfl
  obtain ⟨hb1, hs1, kp, kq, ko⟩ := allocs3 w _ _ _ (rfl : ((w.alloc (.cells #[.slice SA S.length SC, .slice NA N.length NC] 25)).alloc (.cells #[.int .i64 ex, .int .i64 ey, .int .i64 ez] 27)).alloc (.cells #[.int .i64 0, .int .i64 0] 32) = _)
  have z0 : ((0 : Int) != 0) = false := rfl
  clear hs1
  obtain ⟨p0, p1, _, _⟩ := two_cells kp
  obtain ⟨q0, q1, q2⟩ := cells3 kq
  gi_wp2_with fail
  generalize ((w.alloc (.cells #[.slice SA S.length SC, .slice NA N.length NC] 25)).alloc (.cells #[.int .i64 ex, .int .i64 ey, .int .i64 ez] 27)).alloc (.cells #[.int .i64 0, .int .i64 0] 32) = w1 at *
  refine ⟨trivial, (callsIn_wide.2 (CE.out _ (HN.out.below hb1) (HM.out.below hb1) (HO.out.below hb1))).mono ?_⟩
  rintro e w2 ⟨rfl, hb⟩
  clear CE
  replace hb1 := on_below hb1 hb
  replace kp := blk_on kp hb
  replace kq := blk_on kq hb
  replace ko := blk_on ko hb
  clear hb p0 p1 q0 q1 q2
  gi_wp2_with fail
  refine ⟨trivial, (callsIn_wide.2 (whole_is 0 w2)).mono ?_⟩
  rintro e w3 ⟨rfl, hb⟩
  replace hb1 := on_below hb1 hb
  replace kp := blk_on kp hb
  replace kq := blk_on kq hb
  replace ko := blk_on ko hb
  obtain ⟨p0, p1, _, _⟩ := two_cells kp
  obtain ⟨q0, q1, q2⟩ := cells3 kq
  clear hb
  have hs4 : (w3.alloc (.cells #[.int .i64 0, .int .i64 1] 32)).heap.size = w3.heap.size + 1 := by simp
  have hs5 : ((w3.alloc (.cells #[.int .i64 0, .int .i64 1] 32)).alloc (.cells #[.int .i64 0] 3)).heap.size = w3.heap.size + 2 := by simp
  have hb5 : Below w3.heap.size w3 ((w3.alloc (.cells #[.int .i64 0, .int .i64 1] 32)).alloc (.cells #[.int .i64 0] 3)) := on_below (below_new w3 (.cells #[.int .i64 0, .int .i64 1] 32)) (below_new (w3.alloc (.cells #[.int .i64 0, .int .i64 1] 32)) (.cells #[.int .i64 0] 3))
  have ks : ((w3.alloc (.cells #[.int .i64 0, .int .i64 1] 32)).alloc (.cells #[.int .i64 0] 3)).heap[w3.heap.size]? = some (.cells #[.int .i64 0, .int .i64 1] 32 (0, 0)) := blk_on (World.alloc_heap_new w3 _) (below_new _ _)
  have ka : ((w3.alloc (.cells #[.int .i64 0, .int .i64 1] 32)).alloc (.cells #[.int .i64 0] 3)).heap[w3.heap.size + 1]? = some (.cells #[.int .i64 0] 3 (0, 0)) := by rw [← hs4]; exact World.alloc_heap_new _ _
  clear hs4
  have hgs : w.heap.size + 1 + 1 < w3.heap.size := (Array.getElem?_eq_some_iff.1 ko).1
  replace kp := blk_on kp hb5
  replace kq := blk_on kq hb5
  replace ko := blk_on ko hb5
  obtain ⟨p0, p1, _, _⟩ := two_cells kp
  obtain ⟨q0, q1, q2⟩ := cells3 kq
  have HL := Lib.hid (show Lt w.heap.size w3.heap.size (.slice SA S.length SC) (.slice NA N.length NC) (shn ex ey ez S O) N w 0 ((w3.alloc (.cells #[.int .i64 0, .int .i64 1] 32)).alloc (.cells #[.int .i64 0] 3)) from ⟨kp, ko, ks0 ks, ka, on_below hb1 hb5⟩)
  have HN3 := Lib.hid (HN.out.below hb1)
  have HM3 := Lib.hid (HM.out.below hb1)
  have HO3 := Lib.hid (HO.out.below hb1)
  have hge : w.heap.size ≤ w3.heap.size := hb1.size
  clear HM HO
  gi_wp2_with fail
  generalize ((w3.alloc (.cells #[.int .i64 0, .int .i64 1] 32)).alloc (.cells #[.int .i64 0] 3)) = w5 at *
  clear kp kq ko ks ka p0 p1 q0 q1 q2 hb1
  refine ⟨trivial, (callsIn_wide.2 (shs_any SA S.length SC NA N.length NC ex ey ez OA O.length OC w5)).mono ?_⟩
  rintro e w6 ⟨rfl, hw6⟩
  obtain ⟨hb6, _, k0, k1, k2⟩ := allocs3 _ _ _ _ hw6.symm
  have HSQ := Lib.hid (shares_seq 7 (by omega) w5.heap.size (w5.heap.size + 1) (w5.heap.size + 2) SA SC S NA NC N ex ey ez OA OC O HOK.out HLM.out w3 w6 HN3.out HM3.out HO3.out (on_below hb5 hb6) k0 k1 k2)
  replace HL := Lib.hid (HL.out.on hb6)
  have h56 : w5.heap.size ≤ w6.heap.size := hb6.size
  have hlt5 : w3.heap.size + 1 < w5.heap.size := by omega
  clear hw6 hb5 hb6 k0 k1 k2 HN3 HM3 HO3 hs5
  gi_wp2_with fail
  refine range_n (gf := 28) (lb := #[.pointer (some ⟨w5.heap.size, 0, none⟩), .pointer (some ⟨w5.heap.size + 1, 0, none⟩), .pointer (some ⟨w5.heap.size + 2, 0, none⟩)]) rfl shs_enter HSQ.out (Below.refl _ _) (fun k args W e => by rw [e.2]; rfl) Kw.trans (fun W l o o' hl h1 h2 => Kw.put o' (by omega) h1 h2)
    (fun k W => Lt w.heap.size w3.heap.size (.slice SA S.length SC) (.slice NA N.length NC) (shn ex ey ez S O) N w k W) (fun _ _ => False) (Lt.own (by omega)) own_no HL.out ?round ?done ?stop
  case round =>
    rintro l k args W hl hk hI ⟨_, rfl⟩
    have HI := Lib.hid hI
    have hW := hI.bel.size
    have hlt2 : w3.heap.size < W.heap.size := (Array.getElem?_eq_some_iff.1 hI.s).1
    clear hI HSQ HL HOK HLM HRR HN0
    obtain ⟨m1, m2, _, _⟩ := HSC.out k hk
    have s1 := HSH.out k hk
    have t1 := HTS.out k (Nat.le_of_lt hk)
    have v1 := HMS.out k (Nat.le_of_lt hk)
    have v2 := HMS.out (k + 1) hk
    have HT' := Lib.hid (show tsum (shn ex ey ez S O) N (k + 1) = tsum (shn ex ey ez S O) N k + (shn ex ey ez S O) (gdV N k) * (gdV N k).m from rfl)
    have HM' := Lib.hid (show msum N (k + 1) = msum N k + (gdV N k).m from rfl)
    have b1 : 0 ≤ (shn ex ey ez S O) (gdV N k) * (gdV N k).m := Int.mul_nonneg s1.1 (by omega)
    have b2 : (shn ex ey ez S O) (gdV N k) * (gdV N k).m ≤ 100 * (gdV N k).m := Int.mul_le_mul_of_nonneg_right s1.2 (by omega)
    have CM := Lib.hid (fun W => smul_is ((shn ex ey ez S O) (gdV N k)) (gdV N k).m s1 ⟨by omega, m2⟩ W)
    have CA := Lib.hid (fun W => sadd_is (tsum (shn ex ey ez S O) N k) ((shn ex ey ez S O) (gdV N k) * (gdV N k).m) ⟨t1.1, by omega⟩ ⟨b1, by omega⟩ W)
    have CW := Lib.hid (fun W => whole_is (gdV N k).m W)
    have w1_ : IntKind.i64.wrap (msum N k + (gdV N k).m) = msum N k + (gdV N k).m := IntWalk.i64_in _ ⟨by omega, by omega⟩
    have w2_ : wrap64 (msum N k + (gdV N k).m) = msum N k + (gdV N k).m := IntWalk.wrap64_in _ ⟨by omega, by omega⟩
    rw [← HT'.out] at CA
    clear b1 b2 m1 m2 s1 t1 v1 v2 HT' HSC HSH HTS HMS
    have HPUT := Lib.hid (fun (W' : World) (n d v : Int) (h : Lt w.heap.size w3.heap.size (.slice SA S.length SC) (.slice NA N.length NC) (shn ex ey ez S O) N w k W') (a : qN (tsum (shn ex ey ez S O) N (k + 1)) 100 = n) (b : qD (tsum (shn ex ey ez S O) N (k + 1)) 100 = d) (c : msum N (k + 1) = v) => h.put (Nat.le_refl _) hgs a b c)
    obtain ⟨a, ha⟩ : ∃ a, qN ((shn ex ey ez S O) (gdV N k)) 100 = a := ⟨_, rfl⟩
    obtain ⟨b, hb⟩ : ∃ b, qD ((shn ex ey ez S O) (gdV N k)) 100 = b := ⟨_, rfl⟩
    obtain ⟨c, hc_⟩ : ∃ b, qN ((shn ex ey ez S O) (gdV N k) * (gdV N k).m) 100 = b := ⟨_, rfl⟩
    obtain ⟨d, hd_⟩ : ∃ b, qD ((shn ex ey ez S O) (gdV N k) * (gdV N k).m) 100 = b := ⟨_, rfl⟩
    obtain ⟨tn, htn⟩ : ∃ b, qN (tsum (shn ex ey ez S O) N (k + 1)) 100 = b := ⟨_, rfl⟩
    obtain ⟨td, htd⟩ : ∃ b, qD (tsum (shn ex ey ez S O) N (k + 1)) 100 = b := ⟨_, rfl⟩
    rw [ha, hb, hc_, hd_] at CM
    rw [hc_, hd_, htn, htd] at CA
    have HTN := Lib.hid (And.intro htn htd)
    rw [ha, hb]
    clear ha hb hc_ hd_ htn htd
    obtain ⟨b0, o0, hNA, e0, _⟩ := HN.out.below HI.out.bel k hk
    subst hNA
    obtain ⟨m, hm⟩ : ∃ m, (gdV N k).m = m := ⟨_, rfl⟩
    rw [hm] at CM CW w1_ w2_ e0 HM'
    clear hm
    gi_wp2
    have h2 := below_new W (.cells #[.int .i64 a, .int .i64 b] 32)
    refine ⟨keeps_of h2, Kw.of h2 (Nat.le_of_lt hlt2), ?_⟩
    rintro o Wb ho hc hsome hg hoth
    have q0 : (W.alloc (.cells #[.int .i64 a, .int .i64 b] 32)).heap[W.heap.size]? = some (.cells #[.int .i64 a, .int .i64 b] 32 (0, 0)) := World.alloc_heap_new W _
    have kd : Wb.heap[W.heap.size]? = some (.cells #[.int .i64 a, .int .i64 b] 32 (0, 0)) := by rw [hoth _ (fun e => by rw [← e] at ho; rw [q0] at ho; cases ho; cases hc)]; exact q0
    have hrow : ∀ r, some l = some r → w.heap.size ≤ r ∧ ∃ o : Obj, (W.alloc (.cells #[.int .i64 a, .int .i64 b] 32)).heap[r]? = some o ∧ o.isCells = false := fun r e => by cases e; exact ⟨by omega, o, ho, hc⟩
    have e1 : Wb.cell? ⟨b0, o0 + k * 3, none⟩ = some (.int .i64 m) := by
      have hne : b0 ≠ l := by
        rintro rfl
        have h := keepc h2 e0
        simp [World.cell?, ho] at h
        cases o <;> simp [Obj.isCells] at hc h
      rw [World.cell?_of_block (a := ⟨b0, o0 + k * 3, none⟩) (hoth b0 hne)]
      exact keepc h2 e0
    replace HI := Lib.hid ((HI.out.on h2).row hg hrow)
    clear ho hc hsome hg hoth hrow h2 q0 e0
    obtain ⟨d0, d1, _, _⟩ := two_cells kd
    obtain ⟨p0, p1, _, _⟩ := two_cells HI.out.p
    clear kd
    gi_wp2_with fail
    have hltb : w3.heap.size ≤ Wb.heap.size := Nat.le_of_lt (Array.getElem?_eq_some_iff.1 HI.out.s).1
    have kp : ∀ {Wq_ : World}, Below Wb.heap.size Wb Wq_ → Wq_.cell? ⟨W.heap.size, 0, none⟩ = some (.int .i64 a) ∧ Wq_.cell? ⟨W.heap.size, 1, none⟩ = some (.int .i64 b) := fun h => ⟨keepc h d0, keepc h d1⟩
    refine region_round (S := fun Wq_ => Wq_.cell? ⟨W.heap.size, 0, none⟩ = some (.int .i64 a) ∧ Wq_.cell? ⟨W.heap.size, 1, none⟩ = some (.int .i64 b)) hmx (by kernel_rfl) (by rintro ⟨a_, w_, h_⟩; exact h_) (kp (Below.refl _ _).drew) fun HL_ => ?_
    refine wpAnyH_take (i := 0) (v := .agg #[.int .i64 a, .int .i64 b]) rfl (by kernel_rfl) (by kernel_rfl) (by kernel_rfl) (fun _ _ _ h => h) (Or.inl ⟨by kernel_rfl, ?_⟩) HL_ ?_
    · rintro Wl ⟨s0, s1⟩
      go_simp
    simp only [Act.put, List.getElem_toArray, List.getElem_cons_succ, List.getElem_cons_zero, List.setIfInBounds_toArray, List.set_cons_zero, List.set_cons_succ]
    refine wpAnyH_take (i := 1) (v := .int .i64 m) rfl (by kernel_rfl) (by kernel_rfl) (by kernel_rfl) (fun _ _ _ h => h) (Or.inl ⟨by kernel_rfl, ?_⟩) HL_ ?_
    · rintro Wl ⟨s0, s1⟩
      go_simp
    simp only [Act.put, List.getElem_toArray, List.getElem_cons_succ, List.getElem_cons_zero, List.setIfInBounds_toArray, List.set_cons_zero, List.set_cons_succ]
    refine wpAnyH_ready (rs := [2, 7]) (by kernel_rfl) (by simp) ?_
    refine AllReadyH.cons (o := _) rfl (fun K hK => ?_) (AllReadyH.cons (o := _) rfl (fun K hK => ?_) AllReadyH.nil)
    · go_simp
      with_reducible refine (CW.out _).mono ?_
      rintro e_ ud1 ⟨rfl, hb⟩
      have hbX : Below Wb.heap.size Wb ud1 := undrew_b hb
      clear hb
      refine hK.out _ _ (kp hbX) fun HL_ => ?_
      clear hK K
      refine wpAnyH_ready (rs := [3, 7]) (by kernel_rfl) (by simp) ?_
      refine AllReadyH.cons (o := _) rfl (fun K hK => ?_) (AllReadyH.cons (o := _) rfl (fun K hK => ?_) AllReadyH.nil)
      · go_simp
        with_reducible refine (CM.out _).mono ?_
        rintro e_ ud2 ⟨rfl, hb⟩
        replace hbX := on_below hbX hb
        clear hb
        refine hK.out _ _ (kp hbX) fun HL_ => ?_
        clear hK K
        refine wpAnyH_take (i := 4) (v := .tuple #[.agg #[.int .i64 c, .int .i64 d], .int .i64 0]) rfl (by kernel_rfl) (by kernel_rfl) (by kernel_rfl) (fun _ _ _ h => h) (Or.inl ⟨by kernel_rfl, ?_⟩) HL_ ?_
        · rintro Wl ⟨s0, s1⟩
          go_simp
        simp only [Act.put, List.getElem_toArray, List.getElem_cons_succ, List.getElem_cons_zero, List.setIfInBounds_toArray, List.set_cons_zero, List.set_cons_succ]
        refine wpAnyH_take (i := 5) (v := .agg #[.int .i64 c, .int .i64 d]) rfl (by kernel_rfl) (by kernel_rfl) (by kernel_rfl) (fun _ _ _ h => h) (Or.inl ⟨by kernel_rfl, ?_⟩) HL_ ?_
        · rintro Wl ⟨s0, s1⟩
          go_simp
        simp only [Act.put, List.getElem_toArray, List.getElem_cons_succ, List.getElem_cons_zero, List.setIfInBounds_toArray, List.set_cons_zero, List.set_cons_succ]
        refine wpAnyH_take (i := 6) (v := .int .i64 0) rfl (by kernel_rfl) (by kernel_rfl) (by kernel_rfl) (fun _ _ _ h => h) (Or.inl ⟨by kernel_rfl, ?_⟩) HL_ ?_
        · rintro Wl ⟨s0, s1⟩
          go_simp
        simp only [Act.put, List.getElem_toArray, List.getElem_cons_succ, List.getElem_cons_zero, List.setIfInBounds_toArray, List.set_cons_zero, List.set_cons_succ]
        refine wpAnyH_ready (rs := [7]) (by kernel_rfl) (by simp) ?_
        refine AllReadyH.cons (o := _) rfl (fun K hK => ?_) AllReadyH.nil
        go_simp
        have kse : (ud2.alloc (.cells #[.int .i64 0, .int .i64 0] 32)).heap[ud2.heap.size]? = some (.cells #[.int .i64 0, .int .i64 0] 32 (0, 0)) := World.alloc_heap_new _ _
        have hb := below_new ud2 (.cells #[.int .i64 0, .int .i64 0] 32)
        have hgb_ := hbX.size
        replace hbX := on_below hbX hb
        clear hb
        have hgese : Wb.heap.size ≤ ud2.heap.size := hgb_
        clear hgb_
        refine hK.out _ _ (kp hbX) fun HL_ => ?_
        clear hK K
        generalize ud2.alloc (.cells #[.int .i64 0, .int .i64 0] 32) = ud3 at *
        generalize ud2.heap.size = gse at *
        obtain ⟨x0_, x1_, _, _⟩ := two_cells kse
        have f0_ := froz4 kse 0
        have f1_ := froz4 kse 1
        have hb5_ : Below Wb.heap.size Wb ((ud3.setCell ⟨gse, 0, none⟩ (.int .i64 c)).setCell ⟨gse, 1, none⟩ (.int .i64 d)) := ((hbX.setCell hgese _).setCell hgese _)
        have kz_ : ((ud3.setCell ⟨gse, 0, none⟩ (.int .i64 c)).setCell ⟨gse, 1, none⟩ (.int .i64 d)).heap[gse]? = some (.cells #[.int .i64 c, .int .i64 d] 32 (0, 0)) := (set_cells (set_cells kse 0 _) 1 _)
        refine wpAnyH_ready (rs := [8]) (by kernel_rfl) (by simp) ?_
        refine AllReadyH.cons (o := _) rfl (fun K hK => ?_) AllReadyH.nil
        go_simp
        refine hK.out _ _ (kp hb5_) fun HL_ => ?_
        clear hK K x0_ f0_ x1_ f1_ kse hbX
        have kse := kz_
        have hbX := hb5_
        clear kz_ hb5_
        generalize ((ud3.setCell ⟨gse, 0, none⟩ (.int .i64 c)).setCell ⟨gse, 1, none⟩ (.int .i64 d)) = ud4 at *
        refine wpAnyH_take (i := 9) (v := .int .i64 0) rfl (by kernel_rfl) (by kernel_rfl) (by kernel_rfl) (fun _ _ _ h => h) (Or.inl ⟨by kernel_rfl, ?_⟩) HL_ ?_
        · rintro Wl ⟨s0, s1⟩
          go_simp
        simp only [Act.put, List.getElem_toArray, List.getElem_cons_succ, List.getElem_cons_zero, List.setIfInBounds_toArray, List.set_cons_zero, List.set_cons_succ]
        refine wpAnyH_done (by kernel_rfl) ?_ _
        clear HL_ kp
        have HI9 := Lib.hid (HI.out.on hbX)
        have HKW := Lib.hid (Kw.of (b := w3.heap.size) hbX hltb)
        have HKF := Lib.hid (keeps_of (B := w6.heap.size) hbX)
        clear HI hbX CM CW d0 d1 p0 p1 e1 hgese
        obtain ⟨y0, y1, _, _⟩ := two_cells kse
        obtain ⟨x0, x1, _, _⟩ := two_cells HI9.out.s
        clear kse
        gi_wp2_with fail
        refine ⟨trivial, (callsIn_wide.2 (CA.out _)).mono ?_⟩
        rintro e wx ⟨rfl, hb⟩
        clear CA x0 x1 y0 y1
        replace HKW := Lib.hid (HKW.out.trans (Kw.of hb (by have := (Array.getElem?_eq_some_iff.1 HI9.out.s).1; omega)))
        replace HKF := Lib.hid (HKF.out.trans (keeps_of hb))
        replace HI9 := Lib.hid (HI9.out.on hb)
        clear hb
        obtain ⟨x0, x1, f0, f1⟩ := two_cells HI9.out.s
        have y0 := blk_zero (blk_far (i := 1) (u := .int .i64 td) (blk_far (i := 0) (u := .int .i64 tn) HI9.out.a (by omega : w3.heap.size + 1 ≠ w3.heap.size)) (by omega : w3.heap.size + 1 ≠ w3.heap.size))
        have fy := froz4 (blk_far (i := 1) (u := .int .i64 td) (blk_far (i := 0) (u := .int .i64 tn) HI9.out.a (by omega : w3.heap.size + 1 ≠ w3.heap.size)) (by omega : w3.heap.size + 1 ≠ w3.heap.size)) 0
        have HP := Lib.hid (HPUT.out _ tn td _ HI9.out HTN.out.1 HTN.out.2 HM'.out)
        replace HKW := Lib.hid (HKW.out.trans (HI9.out.kw (u := .int .i64 tn) (v := .int .i64 td) (x := .int .i64 (msum N k + m)) (Nat.le_refl _)))
        replace HKF := Lib.hid (((HKF.out.trans (keeps_set ⟨w3.heap.size, 0, none⟩ (.int .i64 tn))).trans (keeps_set ⟨w3.heap.size, 1, none⟩ (.int .i64 td))).trans (keeps_set ⟨w3.heap.size + 1, 0, none⟩ (.int .i64 (msum N k + m))))
        clear HI9 HPUT HTN HM'
        gi_wp2_with fail
        exact ⟨HKF.out, HKW.out, HP.out⟩
      · go_simp
        have kse : (ud1.alloc (.cells #[.int .i64 0, .int .i64 0] 32)).heap[ud1.heap.size]? = some (.cells #[.int .i64 0, .int .i64 0] 32 (0, 0)) := World.alloc_heap_new _ _
        have hb := below_new ud1 (.cells #[.int .i64 0, .int .i64 0] 32)
        have hgb_ := hbX.size
        replace hbX := on_below hbX hb
        clear hb
        have hgese : Wb.heap.size ≤ ud1.heap.size := hgb_
        clear hgb_
        refine hK.out _ _ (kp hbX) fun HL_ => ?_
        clear hK K
        generalize ud1.alloc (.cells #[.int .i64 0, .int .i64 0] 32) = ud5 at *
        generalize ud1.heap.size = gse at *
        refine wpAnyH_ready (rs := [3]) (by kernel_rfl) (by simp) ?_
        refine AllReadyH.cons (o := _) rfl (fun K hK => ?_) AllReadyH.nil
        go_simp
        with_reducible refine (CM.out _).mono ?_
        rintro e_ ud6 ⟨rfl, hb⟩
        replace kse := blk_on kse hb
        replace hbX := on_below hbX hb
        clear hb
        refine hK.out _ _ (kp hbX) fun HL_ => ?_
        clear hK K
        refine wpAnyH_take (i := 4) (v := .tuple #[.agg #[.int .i64 c, .int .i64 d], .int .i64 0]) rfl (by kernel_rfl) (by kernel_rfl) (by kernel_rfl) (fun _ _ _ h => h) (Or.inl ⟨by kernel_rfl, ?_⟩) HL_ ?_
        · rintro Wl ⟨s0, s1⟩
          go_simp
        simp only [Act.put, List.getElem_toArray, List.getElem_cons_succ, List.getElem_cons_zero, List.setIfInBounds_toArray, List.set_cons_zero, List.set_cons_succ]
        refine wpAnyH_take (i := 5) (v := .agg #[.int .i64 c, .int .i64 d]) rfl (by kernel_rfl) (by kernel_rfl) (by kernel_rfl) (fun _ _ _ h => h) (Or.inl ⟨by kernel_rfl, ?_⟩) HL_ ?_
        · rintro Wl ⟨s0, s1⟩
          go_simp
        simp only [Act.put, List.getElem_toArray, List.getElem_cons_succ, List.getElem_cons_zero, List.setIfInBounds_toArray, List.set_cons_zero, List.set_cons_succ]
        refine wpAnyH_take (i := 6) (v := .int .i64 0) rfl (by kernel_rfl) (by kernel_rfl) (by kernel_rfl) (fun _ _ _ h => h) (Or.inl ⟨by kernel_rfl, ?_⟩) HL_ ?_
        · rintro Wl ⟨s0, s1⟩
          go_simp
        simp only [Act.put, List.getElem_toArray, List.getElem_cons_succ, List.getElem_cons_zero, List.setIfInBounds_toArray, List.set_cons_zero, List.set_cons_succ]
        obtain ⟨x0_, x1_, _, _⟩ := two_cells kse
        have f0_ := froz4 kse 0
        have f1_ := froz4 kse 1
        have hb5_ : Below Wb.heap.size Wb ((ud6.setCell ⟨gse, 0, none⟩ (.int .i64 c)).setCell ⟨gse, 1, none⟩ (.int .i64 d)) := ((hbX.setCell hgese _).setCell hgese _)
        have kz_ : ((ud6.setCell ⟨gse, 0, none⟩ (.int .i64 c)).setCell ⟨gse, 1, none⟩ (.int .i64 d)).heap[gse]? = some (.cells #[.int .i64 c, .int .i64 d] 32 (0, 0)) := (set_cells (set_cells kse 0 _) 1 _)
        refine wpAnyH_ready (rs := [8]) (by kernel_rfl) (by simp) ?_
        refine AllReadyH.cons (o := _) rfl (fun K hK => ?_) AllReadyH.nil
        go_simp
        refine hK.out _ _ (kp hb5_) fun HL_ => ?_
        clear hK K x0_ f0_ x1_ f1_ kse hbX
        have kse := kz_
        have hbX := hb5_
        clear kz_ hb5_
        generalize ((ud6.setCell ⟨gse, 0, none⟩ (.int .i64 c)).setCell ⟨gse, 1, none⟩ (.int .i64 d)) = ud7 at *
        refine wpAnyH_take (i := 9) (v := .int .i64 0) rfl (by kernel_rfl) (by kernel_rfl) (by kernel_rfl) (fun _ _ _ h => h) (Or.inl ⟨by kernel_rfl, ?_⟩) HL_ ?_
        · rintro Wl ⟨s0, s1⟩
          go_simp
        simp only [Act.put, List.getElem_toArray, List.getElem_cons_succ, List.getElem_cons_zero, List.setIfInBounds_toArray, List.set_cons_zero, List.set_cons_succ]
        refine wpAnyH_done (by kernel_rfl) ?_ _
        clear HL_ kp
        have HI9 := Lib.hid (HI.out.on hbX)
        have HKW := Lib.hid (Kw.of (b := w3.heap.size) hbX hltb)
        have HKF := Lib.hid (keeps_of (B := w6.heap.size) hbX)
        clear HI hbX CM CW d0 d1 p0 p1 e1 hgese
        obtain ⟨y0, y1, _, _⟩ := two_cells kse
        obtain ⟨x0, x1, _, _⟩ := two_cells HI9.out.s
        clear kse
        gi_wp2_with fail
        refine ⟨trivial, (callsIn_wide.2 (CA.out _)).mono ?_⟩
        rintro e wx ⟨rfl, hb⟩
        clear CA x0 x1 y0 y1
        replace HKW := Lib.hid (HKW.out.trans (Kw.of hb (by have := (Array.getElem?_eq_some_iff.1 HI9.out.s).1; omega)))
        replace HKF := Lib.hid (HKF.out.trans (keeps_of hb))
        replace HI9 := Lib.hid (HI9.out.on hb)
        clear hb
        obtain ⟨x0, x1, f0, f1⟩ := two_cells HI9.out.s
        have y0 := blk_zero (blk_far (i := 1) (u := .int .i64 td) (blk_far (i := 0) (u := .int .i64 tn) HI9.out.a (by omega : w3.heap.size + 1 ≠ w3.heap.size)) (by omega : w3.heap.size + 1 ≠ w3.heap.size))
        have fy := froz4 (blk_far (i := 1) (u := .int .i64 td) (blk_far (i := 0) (u := .int .i64 tn) HI9.out.a (by omega : w3.heap.size + 1 ≠ w3.heap.size)) (by omega : w3.heap.size + 1 ≠ w3.heap.size)) 0
        have HP := Lib.hid (HPUT.out _ tn td _ HI9.out HTN.out.1 HTN.out.2 HM'.out)
        replace HKW := Lib.hid (HKW.out.trans (HI9.out.kw (u := .int .i64 tn) (v := .int .i64 td) (x := .int .i64 (msum N k + m)) (Nat.le_refl _)))
        replace HKF := Lib.hid (((HKF.out.trans (keeps_set ⟨w3.heap.size, 0, none⟩ (.int .i64 tn))).trans (keeps_set ⟨w3.heap.size, 1, none⟩ (.int .i64 td))).trans (keeps_set ⟨w3.heap.size + 1, 0, none⟩ (.int .i64 (msum N k + m))))
        clear HI9 HPUT HTN HM'
        gi_wp2_with fail
        exact ⟨HKF.out, HKW.out, HP.out⟩
    · go_simp
      have kse : (Wb.alloc (.cells #[.int .i64 0, .int .i64 0] 32)).drew.heap[Wb.heap.size]? = some (.cells #[.int .i64 0, .int .i64 0] 32 (0, 0)) := World.alloc_heap_new _ _
      have hbX : Below Wb.heap.size Wb (Wb.alloc (.cells #[.int .i64 0, .int .i64 0] 32)).drew := (below_new Wb (.cells #[.int .i64 0, .int .i64 0] 32)).drew
      have hgese : Wb.heap.size ≤ Wb.heap.size := Nat.le_refl _
      refine hK.out _ _ (kp hbX) fun HL_ => ?_
      clear hK K
      generalize (Wb.alloc (.cells #[.int .i64 0, .int .i64 0] 32)).drew = ud8 at *
      obtain ⟨gse, hgg_, hge2_⟩ : ∃ g, Wb.heap.size = g ∧ Wb.heap.size ≤ g := ⟨_, rfl, Nat.le_refl _⟩
      rw [hgg_] at kse ⊢
      clear hgese
      have hgese := hge2_
      clear hgg_ hge2_
      refine wpAnyH_ready (rs := [2]) (by kernel_rfl) (by simp) ?_
      refine AllReadyH.cons (o := _) rfl (fun K hK => ?_) AllReadyH.nil
      go_simp
      with_reducible refine (CW.out _).mono ?_
      rintro e_ ud9 ⟨rfl, hb⟩
      replace kse := blk_on kse hb
      replace hbX := on_below hbX hb
      clear hb
      refine hK.out _ _ (kp hbX) fun HL_ => ?_
      clear hK K
      refine wpAnyH_ready (rs := [3]) (by kernel_rfl) (by simp) ?_
      refine AllReadyH.cons (o := _) rfl (fun K hK => ?_) AllReadyH.nil
      go_simp
      with_reducible refine (CM.out _).mono ?_
      rintro e_ ud10 ⟨rfl, hb⟩
      replace kse := blk_on kse hb
      replace hbX := on_below hbX hb
      clear hb
      refine hK.out _ _ (kp hbX) fun HL_ => ?_
      clear hK K
      refine wpAnyH_take (i := 4) (v := .tuple #[.agg #[.int .i64 c, .int .i64 d], .int .i64 0]) rfl (by kernel_rfl) (by kernel_rfl) (by kernel_rfl) (fun _ _ _ h => h) (Or.inl ⟨by kernel_rfl, ?_⟩) HL_ ?_
      · rintro Wl ⟨s0, s1⟩
        go_simp
      simp only [Act.put, List.getElem_toArray, List.getElem_cons_succ, List.getElem_cons_zero, List.setIfInBounds_toArray, List.set_cons_zero, List.set_cons_succ]
      refine wpAnyH_take (i := 5) (v := .agg #[.int .i64 c, .int .i64 d]) rfl (by kernel_rfl) (by kernel_rfl) (by kernel_rfl) (fun _ _ _ h => h) (Or.inl ⟨by kernel_rfl, ?_⟩) HL_ ?_
      · rintro Wl ⟨s0, s1⟩
        go_simp
      simp only [Act.put, List.getElem_toArray, List.getElem_cons_succ, List.getElem_cons_zero, List.setIfInBounds_toArray, List.set_cons_zero, List.set_cons_succ]
      refine wpAnyH_take (i := 6) (v := .int .i64 0) rfl (by kernel_rfl) (by kernel_rfl) (by kernel_rfl) (fun _ _ _ h => h) (Or.inl ⟨by kernel_rfl, ?_⟩) HL_ ?_
      · rintro Wl ⟨s0, s1⟩
        go_simp
      simp only [Act.put, List.getElem_toArray, List.getElem_cons_succ, List.getElem_cons_zero, List.setIfInBounds_toArray, List.set_cons_zero, List.set_cons_succ]
      obtain ⟨x0_, x1_, _, _⟩ := two_cells kse
      have f0_ := froz4 kse 0
      have f1_ := froz4 kse 1
      have hb5_ : Below Wb.heap.size Wb ((ud10.setCell ⟨gse, 0, none⟩ (.int .i64 c)).setCell ⟨gse, 1, none⟩ (.int .i64 d)) := ((hbX.setCell hgese _).setCell hgese _)
      have kz_ : ((ud10.setCell ⟨gse, 0, none⟩ (.int .i64 c)).setCell ⟨gse, 1, none⟩ (.int .i64 d)).heap[gse]? = some (.cells #[.int .i64 c, .int .i64 d] 32 (0, 0)) := (set_cells (set_cells kse 0 _) 1 _)
      refine wpAnyH_ready (rs := [8]) (by kernel_rfl) (by simp) ?_
      refine AllReadyH.cons (o := _) rfl (fun K hK => ?_) AllReadyH.nil
      go_simp
      refine hK.out _ _ (kp hb5_) fun HL_ => ?_
      clear hK K x0_ f0_ x1_ f1_ kse hbX
      have kse := kz_
      have hbX := hb5_
      clear kz_ hb5_
      generalize ((ud10.setCell ⟨gse, 0, none⟩ (.int .i64 c)).setCell ⟨gse, 1, none⟩ (.int .i64 d)) = ud11 at *
      refine wpAnyH_take (i := 9) (v := .int .i64 0) rfl (by kernel_rfl) (by kernel_rfl) (by kernel_rfl) (fun _ _ _ h => h) (Or.inl ⟨by kernel_rfl, ?_⟩) HL_ ?_
      · rintro Wl ⟨s0, s1⟩
        go_simp
      simp only [Act.put, List.getElem_toArray, List.getElem_cons_succ, List.getElem_cons_zero, List.setIfInBounds_toArray, List.set_cons_zero, List.set_cons_succ]
      refine wpAnyH_done (by kernel_rfl) ?_ _
      clear HL_ kp
      have HI9 := Lib.hid (HI.out.on hbX)
      have HKW := Lib.hid (Kw.of (b := w3.heap.size) hbX hltb)
      have HKF := Lib.hid (keeps_of (B := w6.heap.size) hbX)
      clear HI hbX CM CW d0 d1 p0 p1 e1 hgese
      obtain ⟨y0, y1, _, _⟩ := two_cells kse
      obtain ⟨x0, x1, _, _⟩ := two_cells HI9.out.s
      clear kse
      gi_wp2_with fail
      refine ⟨trivial, (callsIn_wide.2 (CA.out _)).mono ?_⟩
      rintro e wx ⟨rfl, hb⟩
      clear CA x0 x1 y0 y1
      replace HKW := Lib.hid (HKW.out.trans (Kw.of hb (by have := (Array.getElem?_eq_some_iff.1 HI9.out.s).1; omega)))
      replace HKF := Lib.hid (HKF.out.trans (keeps_of hb))
      replace HI9 := Lib.hid (HI9.out.on hb)
      clear hb
      obtain ⟨x0, x1, f0, f1⟩ := two_cells HI9.out.s
      have y0 := blk_zero (blk_far (i := 1) (u := .int .i64 td) (blk_far (i := 0) (u := .int .i64 tn) HI9.out.a (by omega : w3.heap.size + 1 ≠ w3.heap.size)) (by omega : w3.heap.size + 1 ≠ w3.heap.size))
      have fy := froz4 (blk_far (i := 1) (u := .int .i64 td) (blk_far (i := 0) (u := .int .i64 tn) HI9.out.a (by omega : w3.heap.size + 1 ≠ w3.heap.size)) (by omega : w3.heap.size + 1 ≠ w3.heap.size)) 0
      have HP := Lib.hid (HPUT.out _ tn td _ HI9.out HTN.out.1 HTN.out.2 HM'.out)
      replace HKW := Lib.hid (HKW.out.trans (HI9.out.kw (u := .int .i64 tn) (v := .int .i64 td) (x := .int .i64 (msum N k + m)) (Nat.le_refl _)))
      replace HKF := Lib.hid (((HKF.out.trans (keeps_set ⟨w3.heap.size, 0, none⟩ (.int .i64 tn))).trans (keeps_set ⟨w3.heap.size, 1, none⟩ (.int .i64 td))).trans (keeps_set ⟨w3.heap.size + 1, 0, none⟩ (.int .i64 (msum N k + m))))
      clear HI9 HPUT HTN HM'
      gi_wp2_with fail
      exact ⟨HKF.out, HKW.out, HP.out⟩
  case done =>
    rintro D V hD hI hK
    have HI := Lib.hid hI
    have HK := Lib.hid hK
    obtain ⟨t1, t2⟩ := HTS.out N.length (Nat.le_refl _)
    obtain ⟨v1, v2⟩ := HMS.out N.length (Nat.le_refl _)
    have hn0 := HN0.out
    have CW := Lib.hid (fun W => whole_is (msum N N.length) W)
    have CD := Lib.hid (fun W => sdiv_is (tsum (shn ex ey ez S O) N N.length) (msum N N.length) ⟨t1, by omega⟩ ⟨by omega, by omega⟩ W)
    rw [HRR.out.1, HRR.out.2] at CD
    obtain ⟨s0, s1, _, _⟩ := two_cells hI.s
    have a0 := blk_zero hI.a
    clear hI hK HSQ HL HOK HLM HRR HSC HSH HTS HMS t1 t2 v1 v2 hn0 HN0
    obtain ⟨M, hM⟩ : ∃ M, msum N N.length = M := ⟨_, rfl⟩
    obtain ⟨c, hc⟩ : ∃ c, qN (tsum (shn ex ey ez S O) N N.length) 100 = c := ⟨_, rfl⟩
    obtain ⟨d, hd⟩ : ∃ c, qD (tsum (shn ex ey ez S O) N N.length) 100 = c := ⟨_, rfl⟩
    rw [hM] at CW CD a0
    rw [hc] at CD s0
    rw [hd] at CD s1
    have HCD := Lib.hid (And.intro hc (And.intro hd hM))
    clear hc hd hM
    gi_wp2_with fail
    refine wpIn_onlyN ?_
    have kp : ∀ {Wq_ : World}, Below V.heap.size V Wq_ → Wq_.cell? ⟨w3.heap.size, 0, none⟩ = some (.int .i64 c) ∧ Wq_.cell? ⟨w3.heap.size, 1, none⟩ = some (.int .i64 d) ∧ Wq_.cell? ⟨w3.heap.size + 1, 0, none⟩ = some (.int .i64 M) := fun h => ⟨keepc h s0, keepc h s1, keepc h a0⟩
    refine wp_region_held_drew (S := fun Wq_ => Wq_.cell? ⟨w3.heap.size, 0, none⟩ = some (.int .i64 c) ∧ Wq_.cell? ⟨w3.heap.size, 1, none⟩ = some (.int .i64 d) ∧ Wq_.cell? ⟨w3.heap.size + 1, 0, none⟩ = some (.int .i64 M)) (by kernel_rfl) (kp (Below.refl _ _).drew) fun HL_ => ?_
    refine wpAnyH_take (i := 0) (v := .agg #[.int .i64 c, .int .i64 d]) rfl (by kernel_rfl) (by kernel_rfl) (by kernel_rfl) (fun _ _ _ h => h) (Or.inl ⟨by kernel_rfl, ?_⟩) HL_ ?_
    · rintro Wl ⟨s0, s1, s2⟩
      go_simp
    simp only [Act.put, List.getElem_toArray, List.getElem_cons_succ, List.getElem_cons_zero, List.setIfInBounds_toArray, List.set_cons_zero, List.set_cons_succ]
    refine wpAnyH_take (i := 1) (v := .int .i64 M) rfl (by kernel_rfl) (by kernel_rfl) (by kernel_rfl) (fun _ _ _ h => h) (Or.inl ⟨by kernel_rfl, ?_⟩) HL_ ?_
    · rintro Wl ⟨s0, s1, s2⟩
      go_simp
    simp only [Act.put, List.getElem_toArray, List.getElem_cons_succ, List.getElem_cons_zero, List.setIfInBounds_toArray, List.set_cons_zero, List.set_cons_succ]
    refine wpAnyH_ready (rs := [2]) (by kernel_rfl) (by simp) ?_
    refine AllReadyH.cons (o := _) rfl (fun K hK => ?_) AllReadyH.nil
    go_simp
    with_reducible refine (CW.out _).mono ?_
    rintro e_ ud1 ⟨rfl, hb⟩
    have hbX : Below V.heap.size V ud1 := undrew_b hb
    clear hb
    refine hK.out _ _ (kp hbX) fun HL_ => ?_
    clear hK K
    refine wpAnyH_ready (rs := [3]) (by kernel_rfl) (by simp) ?_
    refine AllReadyH.cons (o := _) rfl (fun K hK => ?_) AllReadyH.nil
    go_simp
    with_reducible refine (CD.out _).mono ?_
    rintro e_ ud2 ⟨rfl, hb⟩
    replace hbX := on_below hbX hb
    clear hb
    refine hK.out _ _ (kp hbX) fun HL_ => ?_
    clear hK K
    refine wpAnyH_take (i := 4) (v := .agg #[.int .i64 rn, .int .i64 rd]) rfl (by kernel_rfl) (by kernel_rfl) (by kernel_rfl) (fun _ _ _ h => h) (Or.inl ⟨by kernel_rfl, ?_⟩) HL_ ?_
    · rintro Wl ⟨s0, s1, s2⟩
      go_simp
    simp only [Act.put, List.getElem_toArray, List.getElem_cons_succ, List.getElem_cons_zero, List.setIfInBounds_toArray, List.set_cons_zero, List.set_cons_succ]
    refine wpAnyH_take (i := 5) (v := .int .i64 0) rfl (by kernel_rfl) (by kernel_rfl) (by kernel_rfl) (fun _ _ _ h => h) (Or.inl ⟨by kernel_rfl, ?_⟩) HL_ ?_
    · rintro Wl ⟨s0, s1, s2⟩
      go_simp
    simp only [Act.put, List.getElem_toArray, List.getElem_cons_succ, List.getElem_cons_zero, List.setIfInBounds_toArray, List.set_cons_zero, List.set_cons_succ]
    have HI2 := Lib.hid (HI.out.on hbX)
    obtain ⟨o0, o1, f0, f1⟩ := two_cells HI2.out.o
    have hs2 := HI2.out.s
    have ha2 := HI2.out.a
    rw [HCD.out.1, HCD.out.2.1] at hs2
    rw [HCD.out.2.2] at ha2
    have ksv := blk_far (i := 1) (u := .int .i64 rd) (blk_far (i := 0) (u := .int .i64 rn) hs2 (by omega : w3.heap.size ≠ w.heap.size + 1 + 1)) (by omega : w3.heap.size ≠ w.heap.size + 1 + 1)
    have kav := blk_far (i := 1) (u := .int .i64 rd) (blk_far (i := 0) (u := .int .i64 rn) ha2 (by omega : w3.heap.size + 1 ≠ w.heap.size + 1 + 1)) (by omega : w3.heap.size + 1 ≠ w.heap.size + 1 + 1)
    have kov : ((ud2.setCell ⟨w.heap.size + 1 + 1, 0, none⟩ (.int .i64 rn)).setCell ⟨w.heap.size + 1 + 1, 1, none⟩ (.int .i64 rd)).heap[w.heap.size + 1 + 1]? = some (.cells #[.int .i64 rn, .int .i64 rd] 32 (0, 0)) := set_cells (set_cells HI2.out.o 0 _) 1 _
    have hbv : Below w.heap.size w ((ud2.setCell ⟨w.heap.size + 1 + 1, 0, none⟩ (.int .i64 rn)).setCell ⟨w.heap.size + 1 + 1, 1, none⟩ (.int .i64 rd)) := (HI2.out.bel.setCell (by show w.heap.size ≤ w.heap.size + 1 + 1; omega) _).setCell (by show w.heap.size ≤ w.heap.size + 1 + 1; omega) _
    have k8 : ((ud2.setCell ⟨w.heap.size + 1 + 1, 0, none⟩ (.int .i64 rn)).setCell ⟨w.heap.size + 1 + 1, 1, none⟩ (.int .i64 rd)).heap[D]? = some (.deferred (some [])) := (KeepsOthers.setCell _ _ _).same _ _ ((KeepsOthers.setCell _ _ _).same _ _ ((hbX.block D (Array.getElem?_eq_some_iff.1 HK.out).1).trans HK.out) rfl) rfl
    refine wpAnyH_ready (rs := [6]) (by kernel_rfl) (by simp) ?_
    refine AllReadyH.cons (o := _) rfl (fun K hK => ?_) AllReadyH.nil
    go_simp
    refine hK.out _ _ ⟨(two_cells ksv).1, (two_cells ksv).2.1, blk_zero kav⟩ fun HL_ => ?_
    clear hK K o0 o1 f0 f1 ksv kav hbX hs2 ha2
    generalize ((ud2.setCell ⟨w.heap.size + 1 + 1, 0, none⟩ (.int .i64 rn)).setCell ⟨w.heap.size + 1 + 1, 1, none⟩ (.int .i64 rd)) = wv at *
    refine wpAnyH_take (i := 7) (v := .int .i64 0) rfl (by kernel_rfl) (by kernel_rfl) (by kernel_rfl) (fun _ _ _ h => h) (Or.inl ⟨by kernel_rfl, ?_⟩) HL_ ?_
    · rintro Wl ⟨s0_, s1_, s2_⟩
      go_simp
    simp only [Act.put, List.getElem_toArray, List.getElem_cons_succ, List.getElem_cons_zero, List.setIfInBounds_toArray, List.set_cons_zero, List.set_cons_succ]
    refine wpAnyH_done (by kernel_rfl) ?_ _
    clear HL_ kp HI HI2 HK CW CD s0 s1 a0 HCD
    unfold OnlyN
    have hq : Below w.heap.size w (wv.putObj D (.deferred none)) := hbv.grown (grownBy_putObj' wv D (.deferred none)) hbv.size (fun j e => by cases e; omega)
    have kq : (wv.putObj D (.deferred none)).heap[w.heap.size + 1 + 1]? = some (.cells #[.int .i64 rn, .int .i64 rd] 32 (0, 0)) := blk_row kov (grownBy_putObj' wv D (.deferred none)) (fun r e => by cases e; exact ⟨_, k8, rfl⟩)
    obtain ⟨g0, g1, _, _⟩ := two_cells kq
    clear kov hbv kq
    gi_wp2
    refine ⟨by simp, .inl ⟨_, _, rfl, run_takeDeferred k8, ?_⟩⟩
    exact ⟨.tuple #[.agg #[.int .i64 rn, .int .i64 rd], .int .i64 0], by simp [results, Try.results7, go_sem, g0, g1], rfl, hq⟩
  case stop =>
    rintro D k V hD hk hI
    exact hI.elim
end Go.Proofs.Ytiffgcipdamngaa

namespace Go.Proofs.Ytiffgcipdamngaa
open Go.RowKit Go.Sort Go.Shelf
open Go.RowKit (Below)
set_option linter.unusedVariables false
set_option linter.unusedSimpArgs false

attribute [local go_sem] Oper.semAt_some

/-- The least share so far, and its scene. -/
def lfN (f : Sv → Int) (N : List Sv) (k : Nat) : Int := if k = 0 then 0 else qN (f (gdV N (fle f N k))) 100
def lfD (f : Sv → Int) (N : List Sv) (k : Nat) : Int := if k = 0 then 0 else qD (f (gdV N (fle f N k))) 100
def lfI (f : Sv → Int) (N : List Sv) (k : Nat) : Int := if k = 0 then -1 else fle f N k
theorem lf_take {f : Sv → Int} {N : List Sv} {k : Nat} (h : k = 0 ∨ f (gdV N k) < f (gdV N (fle f N k))) : lfN f N (k + 1) = qN (f (gdV N k)) 100 ∧ lfD f N (k + 1) = qD (f (gdV N k)) 100 ∧ lfI f N (k + 1) = k := by
  have e : fle f N (k + 1) = k := by
    show (if k = 0 then 0 else _) = k
    by_cases h0 : k = 0
    · rw [if_pos h0]; exact h0.symm
    · rw [if_neg h0, if_pos (h.resolve_left h0)]
  unfold lfN lfD lfI
  rw [if_neg (Nat.succ_ne_zero k), if_neg (Nat.succ_ne_zero k), if_neg (Nat.succ_ne_zero k), e]
  exact ⟨rfl, rfl, rfl⟩
theorem lf_keep {f : Sv → Int} {N : List Sv} {k : Nat} (h0 : k ≠ 0) (h : ¬ f (gdV N k) < f (gdV N (fle f N k))) : lfN f N (k + 1) = lfN f N k ∧ lfD f N (k + 1) = lfD f N k ∧ lfI f N (k + 1) = lfI f N k := by
  have e : fle f N (k + 1) = fle f N k := by
    show (if k = 0 then 0 else _) = _
    rw [if_neg h0, if_neg h]
  unfold lfN lfD lfI
  rw [if_neg (Nat.succ_ne_zero k), if_neg (Nat.succ_ne_zero k), if_neg (Nat.succ_ne_zero k), if_neg h0, if_neg h0, if_neg h0, e]
  exact ⟨rfl, rfl, rfl⟩
/-- firstLeast's own blocks: the comparison, the result, the least share, its scene. -/
structure Lf (g : Nat) (f : Sv → Int) (N : List Sv) (w0 : World) (k : Nat) (W : World) : Prop where
  c : W.heap[g]? = some (.cells #[.func (.func 19) #[] #[]] 63 (0, 0))
  o : W.heap[g + 1]? = some (.cells #[.int .i64 0, .int .i64 0] 32 (0, 0))
  s : W.heap[g + 1 + 1]? = some (.cells #[.int .i64 (lfN f N k), .int .i64 (lfD f N k)] 32 (0, 0))
  a : W.heap[g + 1 + 1 + 1]? = some (.cells #[.int .i64 (lfI f N k)] 3 (0, 0))
  bel : Below w0.heap.size w0 W
section
variable {g k : Nat} {f : Sv → Int} {N : List Sv} {w0 W W' : World}
theorem Lf.on (h : Lf g f N w0 k W) (hb : Below W.heap.size W W') : Lf g f N w0 k W' := ⟨blk_on h.c hb, blk_on h.o hb, blk_on h.s hb, blk_on h.a hb, on_below h.bel hb⟩
theorem Lf.row {row : Option Nat} (h : Lf g f N w0 k W) (hg : W.grownBy W' row) (hr : ∀ r, row = some r → w0.heap.size ≤ r ∧ ∃ o : Obj, W.heap[r]? = some o ∧ o.isCells = false) : Lf g f N w0 k W' :=
  ⟨blk_row h.c hg (fun r e => (hr r e).2), blk_row h.o hg (fun r e => (hr r e).2), blk_row h.s hg (fun r e => (hr r e).2), blk_row h.a hg (fun r e => (hr r e).2), h.bel.grown hg h.bel.size (fun j e => (hr j e).1)⟩
theorem Lf.own {B : Nat} (hB : w0.heap.size ≤ B) : OwnFrom B (fun k W => Lf g f N w0 k W) :=
  fun k W W' row h hg hr => h.row hg (fun r e => ⟨Nat.le_trans hB (hr r e).1, (hr r e).2⟩)
theorem Lf.put (h : Lf g f N w0 k W) (hg : w0.heap.size ≤ g) {n d v : Int} (hn : lfN f N (k + 1) = n) (hd : lfD f N (k + 1) = d) (hv : lfI f N (k + 1) = v) :
    Lf g f N w0 (k + 1) (((W.setCell ⟨g + 1 + 1, 0, none⟩ (.int .i64 n)).setCell ⟨g + 1 + 1, 1, none⟩ (.int .i64 d)).setCell ⟨g + 1 + 1 + 1, 0, none⟩ (.int .i64 v)) := by
  subst hn hd hv
  exact ⟨blk_far (blk_far (blk_far h.c (by omega)) (by omega)) (by omega), blk_far (blk_far (blk_far h.o (by omega)) (by omega)) (by omega), blk_far (set_cells (set_cells h.s 0 _) 1 _) (by omega), set_cells (blk_far (blk_far h.a (by omega)) (by omega)) 0 _,
    ((h.bel.setCell (by show w0.heap.size ≤ g + 1 + 1; omega) _).setCell (by show w0.heap.size ≤ g + 1 + 1; omega) _).setCell (by show w0.heap.size ≤ g + 1 + 1 + 1; omega) _⟩
theorem Lf.keep (h : Lf g f N w0 k W) (hn : lfN f N (k + 1) = lfN f N k) (hd : lfD f N (k + 1) = lfD f N k) (hv : lfI f N (k + 1) = lfI f N k) : Lf g f N w0 (k + 1) W :=
  ⟨h.c, h.o, by rw [hn, hd]; exact h.s, by rw [hv]; exact h.a, h.bel⟩
theorem Lf.kw (h : Lf g f N w0 k W) {b : Nat} {u v x : Value} (hb : b ≤ g) : Kw b W (((W.setCell ⟨g + 1 + 1, 0, none⟩ u).setCell ⟨g + 1 + 1, 1, none⟩ v).setCell ⟨g + 1 + 1 + 1, 0, none⟩ x) :=
  ((Kw.set 0 u (by omega) (Or.inl rfl) h.s).trans (Kw.set 1 v (by omega) (Or.inl rfl) (set_cells h.s _ _))).trans (Kw.set 0 x (by omega) (Or.inr rfl) (blk_far (blk_far h.a (by omega)) (by omega)))
end
theorem allocs4f (W : World) (o0 o1 o2 o3 : Obj) {V : World} (hV : (((W.alloc o0).alloc o1).alloc o2).alloc o3 = V) :
    Below W.heap.size W V ∧ V.heap[W.heap.size]? = some o0 ∧ V.heap[W.heap.size + 1]? = some o1 ∧ V.heap[W.heap.size + 1 + 1]? = some o2 ∧ V.heap[W.heap.size + 1 + 1 + 1]? = some o3 := by
  subst hV
  have nb : ∀ (U : World) (k : Nat) (o : Obj), U.heap.size = k → (U.alloc o).heap[k]? = some o := fun U k o h => by subst h; exact World.alloc_heap_new U o
  refine ⟨((((Below.refl _ W).alloc (Nat.le_refl _) _).alloc (by simp) _).alloc (by simp; omega) _).alloc (by simp; omega) _, ?_, ?_, ?_, ?_⟩
  · exact blk_new (blk_new (blk_new (nb _ _ _ rfl) _) _) _
  · exact blk_new (blk_new (nb _ _ _ (by simp)) _) _
  · exact blk_new (nb _ _ _ (by simp)) _
  · exact nb _ _ _ (by simp)
set_option maxRecDepth 100000 in
set_option maxHeartbeats 4000000 in
theorem fleast_is (gp ge go : Nat) (SA : Option Addr) (SC : Nat) (S : List Bv) (NA : Option Addr) (NC : Nat) (N : List Sv) (ex ey ez : Int) (OA : Option Addr) (OC : Nat) (O : List Bv) (hok : Ok3 S N ex ey ez O) (hlm : Lim S.length O.length N) (rn rd ri : Int) (hrn : lfN (shn ex ey ez S O) N N.length = rn) (hrd : lfD (shn ex ey ez S O) N N.length = rd) (hri : lfI (shn ex ey ez S O) N N.length = ri) (w : World) (hn : SvS w NA N) (hm : BdS w SA S) (ho : BdS w OA O)
    (kp : w.heap[gp]? = some (.cells #[.slice SA S.length SC, .slice NA N.length NC] 25 (0, 0))) (ke : w.heap[ge]? = some (.cells #[.int .i64 ex, .int .i64 ey, .int .i64 ez] 27 (0, 0))) (ko : w.heap[go]? = some (.cells #[.slice OA O.length OC] 22 (0, 0))) :
    Calls Try.prog 18 #[.func (.func 28) #[] #[.pointer (some ⟨gp, 0, none⟩), .pointer (some ⟨ge, 0, none⟩), .pointer (some ⟨go, 0, none⟩)], .func (.func 19) #[] #[]] w fun e_ w' => e_ = .returned (.tuple #[.agg #[.int .i64 rn, .int .i64 rd], .int .i64 ri]) ∧ Below w.heap.size w w' := by
  have hsco := hok.1.2.2.2.2
  have hsh : ∀ k, k < N.length → 0 ≤ (shn ex ey ez S O) (gdV N k) ∧ (shn ex ey ez S O) (gdV N k) ≤ 100 := fun k hk => shn_bd ex ey ez S O (hsco k hk).2.2.1
  have HSH := Lib.hid hsh
  have HRR := Lib.hid (And.intro hrn (And.intro hrd hri))
  have hn20 : N.length ≤ 20 := hok.1.2.1
  obtain ⟨hb1, kc, kr, ks, ka⟩ := allocs4f w _ _ _ _ (rfl : (((w.alloc (.cells #[.func (.func 19) #[] #[]] 63)).alloc (.cells #[.int .i64 0, .int .i64 0] 32)).alloc (.cells #[.int .i64 0, .int .i64 0] 32)).alloc (.cells #[.int .i64 (-1)] 3) = _)
  have HSQ := Lib.hid (fun (V : World) (h : Below w.heap.size w V) => shares_seq 7 (by omega) gp ge go SA SC S NA NC N ex ey ez OA OC O hok hlm w V hn hm ho h (blk_on kp h) (blk_on ke h) (blk_on ko h))
  clear hok hlm hn hm ho hsco hsh hrn hrd hri kp ke ko
  have c0 := blk_zero kc
  have HL := Lib.hid (show Lf w.heap.size (shn ex ey ez S O) N w 0 ((((w.alloc (.cells #[.func (.func 19) #[] #[]] 63)).alloc (.cells #[.int .i64 0, .int .i64 0] 32)).alloc (.cells #[.int .i64 0, .int .i64 0] 32)).alloc (.cells #[.int .i64 (-1)] 3)) from ⟨kc, kr, ks, ka, hb1⟩)
  clear kr ks ka
  refine (callsIn_wide (n := 8)).1 ?_
  refine callsIn_of_wp_marks Try.func18 rfl trivial ?_ rfl
  simp only [Try.ntmps18, List.size_toArray, List.length_cons, List.length_nil, Nat.reduceAdd, Nat.reduceSub, Array.replicate_succ, Array.replicate_zero, List.push_toArray, List.append_toArray, List.nil_append, List.cons_append]
  have hmx : Try.prog.follows .mixedOrders = true := by kernel_rfl
  gi_wp2_with fail
  generalize (((w.alloc (.cells #[.func (.func 19) #[] #[]] 63)).alloc (.cells #[.int .i64 0, .int .i64 0] 32)).alloc (.cells #[.int .i64 0, .int .i64 0] 32)).alloc (.cells #[.int .i64 (-1)] 3) = w1 at *
  replace HSQ := Lib.hid (HSQ.out w1 HL.out.bel)
  clear kc c0
  have hw1 : w.heap.size + 1 + 1 + 1 < w1.heap.size := (Array.getElem?_eq_some_iff.1 HL.out.a).1
  refine range_n (gf := 28) (lb := #[.pointer (some ⟨gp, 0, none⟩), .pointer (some ⟨ge, 0, none⟩), .pointer (some ⟨go, 0, none⟩)]) rfl shs_enter HSQ.out (Below.refl _ _) (fun k args W e => by rw [e.2]; rfl) Kw.trans (fun W l o o' hl h1 h2 => Kw.put o' (by omega) h1 h2)
    (fun k W => Lf w.heap.size (shn ex ey ez S O) N w k W) (fun _ _ => False) (Lf.own (by omega)) own_no HL.out ?round ?done ?stop
  case round =>
    rintro l k args W hl hk hI ⟨_, rfl⟩
    have HI := Lib.hid hI
    have hW := hI.bel.size
    have hlt2 : w.heap.size + 1 + 1 + 1 < W.heap.size := (Array.getElem?_eq_some_iff.1 hI.a).1
    clear hI HSQ HL HRR hb1
    have s1 := HSH.out k hk
    have HTK := Lib.hid (fun h => lf_take (f := (shn ex ey ez S O)) (N := N) (k := k) h)
    have HKP := Lib.hid (fun h0 h => lf_keep (f := (shn ex ey ez S O)) (N := N) (k := k) h0 h)
    have CC := Lib.hid (fun (h0 : 0 < k) W => by
      have s2 := HSH.out (fle (shn ex ey ez S O) N k) (Nat.lt_trans (fle_le _ _ k h0) hk)
      exact scmp_is (qN ((shn ex ey ez S O) (gdV N k)) 100) (qD ((shn ex ey ez S O) (gdV N k)) 100) (qN ((shn ex ey ez S O) (gdV N (fle (shn ex ey ez S O) N k))) 100) (qD ((shn ex ey ez S O) (gdV N (fle (shn ex ey ez S O) N k))) 100) _ (q_vld (by omega) ⟨by omega, by omega⟩ (by omega)) (q_vld (by omega) ⟨by omega, by omega⟩ (by omega)) (sgn_q (by omega) (by omega)) W)
    obtain ⟨a, ha⟩ : ∃ a, qN ((shn ex ey ez S O) (gdV N k)) 100 = a := ⟨_, rfl⟩
    obtain ⟨b, hb⟩ : ∃ b, qD ((shn ex ey ez S O) (gdV N k)) 100 = b := ⟨_, rfl⟩
    rw [ha, hb] at CC HTK ⊢
    clear ha hb s1 HSH
    gi_wp2
    have h2 := below_new W (.cells #[.int .i64 a, .int .i64 b] 32)
    refine ⟨keeps_of h2, Kw.of h2 (by omega), ?_⟩
    rintro o Wb ho hc hsome hg hoth
    have q0 : (W.alloc (.cells #[.int .i64 a, .int .i64 b] 32)).heap[W.heap.size]? = some (.cells #[.int .i64 a, .int .i64 b] 32 (0, 0)) := World.alloc_heap_new W _
    have kd : Wb.heap[W.heap.size]? = some (.cells #[.int .i64 a, .int .i64 b] 32 (0, 0)) := by rw [hoth _ (fun e => by rw [← e] at ho; rw [q0] at ho; cases ho; cases hc)]; exact q0
    have hrow : ∀ r, some l = some r → w.heap.size ≤ r ∧ ∃ o : Obj, (W.alloc (.cells #[.int .i64 a, .int .i64 b] 32)).heap[r]? = some o ∧ o.isCells = false := fun r e => by cases e; exact ⟨by omega, o, ho, hc⟩
    replace HI := Lib.hid ((HI.out.on h2).row hg hrow)
    clear ho hc hsome hg hoth hrow h2 q0
    obtain ⟨d0, d1, _, _⟩ := two_cells kd
    have HKD := Lib.hid kd
    clear kd
    have hwb : w.heap.size + 1 + 1 + 1 < Wb.heap.size := (Array.getElem?_eq_some_iff.1 HI.out.a).1
    have HKF0 := Lib.hid (fun V => ((keeps_set (B := w1.heap.size) (W := V) ⟨w.heap.size + 1 + 1, 0, none⟩ (.int .i64 a)).trans (keeps_set ⟨w.heap.size + 1 + 1, 1, none⟩ (.int .i64 b))).trans (keeps_set ⟨w.heap.size + 1 + 1 + 1, 0, none⟩ (.int .i64 k)))
    by_cases h0 : k = 0
    · have a0 : Wb.cell? ⟨w.heap.size + 1 + 1 + 1, 0, none⟩ = some (.int .i64 (-1)) := by
        have := blk_zero HI.out.a
        unfold lfI at this
        rwa [if_pos h0] at this
      have fa := froz4 HI.out.a 0
      obtain ⟨x0, x1, f0, f1⟩ := two_cells HI.out.s
      obtain ⟨t1, t2, t3⟩ := HTK.out (Or.inl h0)
      have HP := Lib.hid (HI.out.put (Nat.le_refl _) t1 t2 t3)
      have HKW := Lib.hid (HI.out.kw (b := w.heap.size) (u := .int .i64 a) (v := .int .i64 b) (x := .int .i64 k) (Nat.le_refl _))
      have HKF := Lib.hid (HKF0.out Wb)
      have fa2 := froz4 (blk_far (i := 1) (u := .int .i64 b) (blk_far (i := 0) (u := .int .i64 a) HI.out.a (by omega : w.heap.size + 1 + 1 + 1 ≠ w.heap.size + 1 + 1)) (by omega : w.heap.size + 1 + 1 + 1 ≠ w.heap.size + 1 + 1)) 0
      have a2 := blk_zero (blk_far (i := 1) (u := .int .i64 b) (blk_far (i := 0) (u := .int .i64 a) HI.out.a (by omega : w.heap.size + 1 + 1 + 1 ≠ w.heap.size + 1 + 1)) (by omega : w.heap.size + 1 + 1 + 1 ≠ w.heap.size + 1 + 1))
      clear HI HKD HTK HKP CC HKF0 h0 t1 t2 t3 hwb hlt2 hW
      gi_wp2_with fail
      refine ⟨(fun f e => by cases e), ?_⟩
      gi_wp2_with fail
      exact ⟨HKF.out, HKW.out, HP.out⟩
    · have hp : 0 < k := by omega
      have a0 : Wb.cell? ⟨w.heap.size + 1 + 1 + 1, 0, none⟩ = some (.int .i64 (fle (shn ex ey ez S O) N k)) := by
        have := blk_zero HI.out.a
        unfold lfI at this
        rwa [if_neg h0] at this
      have hs : Wb.cell? ⟨w.heap.size + 1 + 1, 0, none⟩ = some (.int .i64 (qN ((shn ex ey ez S O) (gdV N (fle (shn ex ey ez S O) N k))) 100)) ∧ Wb.cell? ⟨w.heap.size + 1 + 1, 1, none⟩ = some (.int .i64 (qD ((shn ex ey ez S O) (gdV N (fle (shn ex ey ez S O) N k))) 100)) := by
        have := two_cells HI.out.s
        unfold lfN lfD at this
        rw [if_neg h0, if_neg h0] at this
        exact ⟨this.1, this.2.1⟩
      obtain ⟨x0, x1⟩ := hs
      have c0 := blk_zero HI.out.c
      have C2 := Lib.hid (CC.out hp)
      clear CC
      obtain ⟨c, hc_⟩ : ∃ c, qN ((shn ex ey ez S O) (gdV N (fle (shn ex ey ez S O) N k))) 100 = c := ⟨_, rfl⟩
      obtain ⟨d, hd_⟩ : ∃ c, qD ((shn ex ey ez S O) (gdV N (fle (shn ex ey ez S O) N k))) 100 = c := ⟨_, rfl⟩
      rw [hc_] at C2 x0
      rw [hd_] at C2 x1
      clear hc_ hd_
      obtain ⟨z, hz⟩ : ∃ z, sgn ((shn ex ey ez S O) (gdV N k) * 100) ((shn ex ey ez S O) (gdV N (fle (shn ex ey ez S O) N k)) * 100) = z := ⟨_, rfl⟩
      rw [hz] at C2
      have hzl : z < 0 ↔ (shn ex ey ez S O) (gdV N k) < (shn ex ey ez S O) (gdV N (fle (shn ex ey ez S O) N k)) := by
        rw [← hz]; unfold sgn
        split
        · exact ⟨fun _ => by omega, fun _ => by omega⟩
        · split <;> exact ⟨fun h => by omega, fun h => by omega⟩
      have HZL := Lib.hid hzl
      clear hz hzl
      have e0 : ¬ ((fle (shn ex ey ez S O) N k : Nat) : Int) < 0 := by omega
      have hd0 : decide (((fle (shn ex ey ez S O) N k : Nat) : Int) < 0) = false := decide_eq_false e0
      have HTP := Lib.hid (fun (V : World) (h : Lf w.heap.size (shn ex ey ez S O) N w k V) (hz : z < 0) => by
        obtain ⟨t1, t2, t3⟩ := HTK.out (Or.inr (HZL.out.1 hz))
        exact h.put (Nat.le_refl _) t1 t2 t3)
      have HKE := Lib.hid (fun (V : World) (h : Lf w.heap.size (shn ex ey ez S O) N w k V) (hz : 0 ≤ z) => by
        obtain ⟨t1, t2, t3⟩ := HKP.out h0 (Int.not_lt.1 (fun e => by have := HZL.out.2 e; omega))
        exact h.keep t1 t2 t3)
      clear HTK HKP HZL h0 hp
      generalize fle (shn ex ey ez S O) N k = fi at *
      gi_wp2_with fail
      refine ⟨trivial, (callsIn_wide.2 (C2.out _)).mono ?_⟩
      rintro e W3 ⟨rfl, hb⟩
      replace HI := Lib.hid (HI.out.on hb)
      have HKW0 := Lib.hid (Kw.of (b := w.heap.size) hb (by omega))
      have HKF1 := Lib.hid (keeps_of (B := w1.heap.size) hb)
      obtain ⟨d0, d1, _, _⟩ := two_cells (blk_on HKD.out hb)
      clear C2 HKD x0 x1 c0 a0 hb
      by_cases hzz : z < 0
      · have hz1 : decide (z < 0) = true := decide_eq_true hzz
        have fa := froz4 HI.out.a 0
        obtain ⟨x0, x1, f0, f1⟩ := two_cells HI.out.s
        have HP := Lib.hid (HTP.out _ HI.out hzz)
        have HKW := Lib.hid (HKW0.out.trans (HI.out.kw (b := w.heap.size) (u := .int .i64 a) (v := .int .i64 b) (x := .int .i64 k) (Nat.le_refl _)))
        have HKF := Lib.hid (HKF1.out.trans (HKF0.out W3))
        have fa2 := froz4 (blk_far (i := 1) (u := .int .i64 b) (blk_far (i := 0) (u := .int .i64 a) HI.out.a (by omega : w.heap.size + 1 + 1 + 1 ≠ w.heap.size + 1 + 1)) (by omega : w.heap.size + 1 + 1 + 1 ≠ w.heap.size + 1 + 1)) 0
        have a2 := blk_zero (blk_far (i := 1) (u := .int .i64 b) (blk_far (i := 0) (u := .int .i64 a) HI.out.a (by omega : w.heap.size + 1 + 1 + 1 ≠ w.heap.size + 1 + 1)) (by omega : w.heap.size + 1 + 1 + 1 ≠ w.heap.size + 1 + 1))
        clear HI HTP HKE HKF0 HKF1 HKW0 hwb hlt2 hW
        gi_wp2_with fail
        exact ⟨HKF.out, HKW.out, HP.out⟩
      · have hz1 : decide (z < 0) = false := decide_eq_false hzz
        have HP := Lib.hid (HKE.out _ HI.out (Int.not_lt.1 hzz))
        clear HI HTP HKE HKF0 hwb hlt2 hW
        gi_wp2_with fail
        exact ⟨HKF1.out, HKW0.out, HP.out⟩
  case done =>
    rintro D V hD hI hK
    have HK := Lib.hid hK
    have ha := hI.a
    have hs := hI.s
    have ho := hI.o
    rw [HRR.out.1, HRR.out.2.1] at hs
    rw [HRR.out.2.2] at ha
    obtain ⟨s0, s1, _, _⟩ := two_cells hs
    have a0 := blk_zero ha
    obtain ⟨o0, o1, f0, f1⟩ := two_cells ho
    have hbl := hI.bel.drew
    have hs2 : V.drew.heap[w.heap.size + 1 + 1]? = _ := hs
    have ha2 : V.drew.heap[w.heap.size + 1 + 1 + 1]? = _ := ha
    have ho2 : V.drew.heap[w.heap.size + 1]? = _ := ho
    have hk2 : V.drew.heap[D]? = _ := HK.out
    clear hI hK HSQ HL HRR HSH HK hs ha ho o0 o1 f0 f1
    gi_wp2_with fail
    refine wpIn_onlyN ?_
    refine wp_region_held_drew (S := fun Wq_ => Wq_.cell? ⟨w.heap.size + 1 + 1, 0, none⟩ = some (.int .i64 rn) ∧ Wq_.cell? ⟨w.heap.size + 1 + 1, 1, none⟩ = some (.int .i64 rd) ∧ Wq_.cell? ⟨w.heap.size + 1 + 1 + 1, 0, none⟩ = some (.int .i64 ri)) (by kernel_rfl) ⟨s0, s1, a0⟩ fun HL_ => ?_
    clear s0 s1 a0
    generalize V.drew = U at *
    refine wpAnyH_take (i := 0) (v := .agg #[.int .i64 rn, .int .i64 rd]) rfl (by kernel_rfl) (by kernel_rfl) (by kernel_rfl) (fun _ _ _ h => h) (Or.inl ⟨by kernel_rfl, ?_⟩) HL_ ?_
    · rintro Wl ⟨s0_, s1_, s2_⟩
      go_simp
    simp only [Act.put, List.getElem_toArray, List.getElem_cons_succ, List.getElem_cons_zero, List.setIfInBounds_toArray, List.set_cons_zero, List.set_cons_succ]
    refine wpAnyH_take (i := 1) (v := .int .i64 ri) rfl (by kernel_rfl) (by kernel_rfl) (by kernel_rfl) (fun _ _ _ h => h) (Or.inl ⟨by kernel_rfl, ?_⟩) HL_ ?_
    · rintro Wl ⟨s0_, s1_, s2_⟩
      go_simp
    simp only [Act.put, List.getElem_toArray, List.getElem_cons_succ, List.getElem_cons_zero, List.setIfInBounds_toArray, List.set_cons_zero, List.set_cons_succ]
    obtain ⟨o0, o1, f0, f1⟩ := two_cells ho2
    have ksv := blk_far (i := 1) (u := .int .i64 rd) (blk_far (i := 0) (u := .int .i64 rn) hs2 (by omega : w.heap.size + 1 + 1 ≠ w.heap.size + 1)) (by omega : w.heap.size + 1 + 1 ≠ w.heap.size + 1)
    have kav := blk_far (i := 1) (u := .int .i64 rd) (blk_far (i := 0) (u := .int .i64 rn) ha2 (by omega : w.heap.size + 1 + 1 + 1 ≠ w.heap.size + 1)) (by omega : w.heap.size + 1 + 1 + 1 ≠ w.heap.size + 1)
    have kov : ((U.setCell ⟨w.heap.size + 1, 0, none⟩ (.int .i64 rn)).setCell ⟨w.heap.size + 1, 1, none⟩ (.int .i64 rd)).heap[w.heap.size + 1]? = some (.cells #[.int .i64 rn, .int .i64 rd] 32 (0, 0)) := set_cells (set_cells ho2 0 _) 1 _
    have hbv : Below w.heap.size w ((U.setCell ⟨w.heap.size + 1, 0, none⟩ (.int .i64 rn)).setCell ⟨w.heap.size + 1, 1, none⟩ (.int .i64 rd)) := (hbl.setCell (by show w.heap.size ≤ w.heap.size + 1; omega) _).setCell (by show w.heap.size ≤ w.heap.size + 1; omega) _
    have k8 : ((U.setCell ⟨w.heap.size + 1, 0, none⟩ (.int .i64 rn)).setCell ⟨w.heap.size + 1, 1, none⟩ (.int .i64 rd)).heap[D]? = some (.deferred (some [])) := (KeepsOthers.setCell _ _ _).same _ _ ((KeepsOthers.setCell _ _ _).same _ _ hk2 rfl) rfl
    have q0 := two_cells ksv
    have q1 := blk_zero kav
    refine wpAnyH_ready (rs := [2]) (by kernel_rfl) (by simp) ?_
    refine AllReadyH.cons (o := _) rfl (fun K hK => ?_) AllReadyH.nil
    go_simp
    refine hK.out _ _ ⟨q0.1, q0.2.1, q1⟩ fun HL_ => ?_
    clear hK K o0 o1 f0 f1 q0 q1 ksv kav hs2 ha2 ho2 hk2 hbl
    generalize (U.setCell ⟨w.heap.size + 1, 0, none⟩ (.int .i64 rn)).setCell ⟨w.heap.size + 1, 1, none⟩ (.int .i64 rd) = wv at *
    refine wpAnyH_take (i := 3) (v := .int .i64 ri) rfl (by kernel_rfl) (by kernel_rfl) (by kernel_rfl) (fun _ _ _ h => h) (Or.inl ⟨by kernel_rfl, ?_⟩) HL_ ?_
    · rintro Wl ⟨s0_, s1_, s2_⟩
      go_simp
    simp only [Act.put, List.getElem_toArray, List.getElem_cons_succ, List.getElem_cons_zero, List.setIfInBounds_toArray, List.set_cons_zero, List.set_cons_succ]
    refine wpAnyH_done (by kernel_rfl) ?_ _
    clear HL_
    unfold OnlyN
    have hq : Below w.heap.size w (wv.putObj D (.deferred none)) := hbv.grown (grownBy_putObj' wv D (.deferred none)) hbv.size (fun j e => by cases e; omega)
    have kq : (wv.putObj D (.deferred none)).heap[w.heap.size + 1]? = some (.cells #[.int .i64 rn, .int .i64 rd] 32 (0, 0)) := blk_row kov (grownBy_putObj' wv D (.deferred none)) (fun r e => by cases e; exact ⟨_, k8, rfl⟩)
    obtain ⟨g0, g1, _, _⟩ := two_cells kq
    clear kov hbv kq
    gi_wp2
    refine ⟨by simp, .inl ⟨_, _, rfl, run_takeDeferred k8, ?_⟩⟩
    exact ⟨.tuple #[.agg #[.int .i64 rn, .int .i64 rd], .int .i64 ri], by simp [results, Try.results18, go_sem, g0, g1], rfl, hq⟩
  case stop =>
    rintro D k V hD hk hI
    exact hI.elim
end Go.Proofs.Ytiffgcipdamngaa

namespace Go.Proofs.Ytiffgcipdamngaa
open Go.RowKit Go.Sort
open Go.RowKit (Below)
set_option linter.unusedVariables false
set_option linter.unusedSimpArgs false
attribute [local go_sem] Oper.semAt_some

/-- What Total answers. -/
def TotR (S : List Bv) (N : List Sv) (ex ey ez : Int) (O : List Bv) (n d E : Int) : Prop :=
  (E ≠ 0 ∧ ScE S N ex ey ez O E ∧ n = 0 ∧ d = 0) ∨ (E = 0 ∧ Ok3 S N ex ey ez O ∧ Lim S.length O.length N ∧ qN (tsum (shn ex ey ez S O) N N.length) (100 * msum N N.length) = n ∧ qD (tsum (shn ex ey ez S O) N N.length) (100 * msum N N.length) = d)

theorem total_is (SA : Option Addr) (SC : Nat) (S : List Bv) (NA : Option Addr) (NC : Nat) (N : List Sv) (ex ey ez : Int) (OA : Option Addr) (OC : Nat) (O : List Bv) (hs : Sml S N) (ho0 : O.length ≤ 1000) (n d E : Int) (hR : TotR S N ex ey ez O n d E) (w : World) (hn : SvS w NA N) (hm : BdS w SA S) (ho : BdS w OA O) :
    Calls Try.prog 7 #[.agg #[.slice SA S.length SC, .slice NA N.length NC], .agg #[.int .i64 ex, .int .i64 ey, .int .i64 ez], .slice OA O.length OC] w fun e_ w' => e_ = .returned (.tuple #[.agg #[.int .i64 n, .int .i64 d], .int .i64 E]) ∧ Below w.heap.size w w' := by
  rcases hR with ⟨h, hE, rfl, rfl⟩ | ⟨rfl, h1, h2, h3, h4⟩
  · exact total_0 SA SC S NA NC N ex ey ez OA OC O hs ho0 E hE h w hn hm ho
  · exact total_1 SA SC S NA NC N ex ey ez OA OC O hs ho0 h1 h2 n d h3 h4 w hn hm ho
/-- The share of a piece is a number. -/
theorem tot_vld {S : List Bv} {N : List Sv} {ex ey ez : Int} {O : List Bv} {n d : Int} (h : TotR S N ex ey ez O n d 0) : vld n d = true ∧ Ok3 S N ex ey ez O ∧ Lim S.length O.length N ∧ (0 ≤ tsum (shn ex ey ez S O) N N.length ∧ tsum (shn ex ey ez S O) N N.length ≤ 100 * msum N N.length) ∧ (0 < msum N N.length ∧ msum N N.length ≤ 12000) ∧ qN (tsum (shn ex ey ez S O) N N.length) (100 * msum N N.length) = n ∧ qD (tsum (shn ex ey ez S O) N N.length) (100 * msum N N.length) = d := by
  rcases h with ⟨h, _⟩ | ⟨_, h1, h2, h3, h4⟩
  · exact absurd rfl h
  · have hsco := h1.1.2.2.2.2
    have t1 := tsum_bd hsco (f := (shn ex ey ez S O)) (fun k hk => shn_bd ex ey ez S O (hsco k hk).2.2.1) N.length (Nat.le_refl _)
    have m1 := msum_bd hsco N.length (Nat.le_refl _)
    have hn := h1.1.1
    have hn2 := h1.1.2.1
    refine ⟨?_, h1, h2, t1, ⟨by omega, by omega⟩, h3, h4⟩
    rw [← h3, ← h4]
    exact q_vld (by omega) ⟨by omega, by omega⟩ (by omega)
set_option maxRecDepth 100000 in
set_option maxHeartbeats 2000000 in
theorem worst_0 (SA : Option Addr) (SC : Nat) (S : List Bv) (NA : Option Addr) (NC : Nat) (N : List Sv) (ex ey ez : Int) (OA : Option Addr) (OC : Nat) (O : List Bv) (hs : Sml S N) (ho0 : O.length ≤ 1000) (E : Int) (hE : ScE S N ex ey ez O E) (h0 : E ≠ 0) (w : World) (hn : SvS w NA N) (hm : BdS w SA S) (ho : BdS w OA O) :
    Calls Try.prog 8 #[.agg #[.slice SA S.length SC, .slice NA N.length NC], .agg #[.int .i64 ex, .int .i64 ey, .int .i64 ez], .slice OA O.length OC] w fun e_ w' => e_ = .returned (.tuple #[.agg #[.int .i64 0, .int .i64 0], .int .i64 0, .int .i64 E]) ∧ Below w.heap.size w w' := by
  have CE := Lib.hid (fun W (a : SvS W NA N) (b : BdS W SA S) (c : BdS W OA O) => err_is SA SC S NA NC N ex ey ez OA OC O hs ho0 E hE W a b c)
  have z0 : (E != 0) = true := by simp [h0]
  clear hs hE h0
  have HN := Lib.hid hn
  clear hn
  have HM := Lib.hid hm
  clear hm
  have HO := Lib.hid ho
  clear ho
  have p0 : World.cell? (((w.alloc (.cells #[.slice SA S.length SC, .slice NA N.length NC] 25)).alloc (.cells #[.int .i64 ex, .int .i64 ey, .int .i64 ez] 27)).alloc (.cells #[.int .i64 0, .int .i64 0] 32)) ⟨w.heap.size, 0, none⟩ = some (.slice SA S.length SC) := by simp [go_sem]
  have p1 : World.cell? (((w.alloc (.cells #[.slice SA S.length SC, .slice NA N.length NC] 25)).alloc (.cells #[.int .i64 ex, .int .i64 ey, .int .i64 ez] 27)).alloc (.cells #[.int .i64 0, .int .i64 0] 32)) ⟨w.heap.size, 1, none⟩ = some (.slice NA N.length NC) := by simp [go_sem]
  have lp : w.heap.size < (((w.alloc (.cells #[.slice SA S.length SC, .slice NA N.length NC] 25)).alloc (.cells #[.int .i64 ex, .int .i64 ey, .int .i64 ez] 27)).alloc (.cells #[.int .i64 0, .int .i64 0] 32)).heap.size := by simp <;> omega
  have q0 : World.cell? (((w.alloc (.cells #[.slice SA S.length SC, .slice NA N.length NC] 25)).alloc (.cells #[.int .i64 ex, .int .i64 ey, .int .i64 ez] 27)).alloc (.cells #[.int .i64 0, .int .i64 0] 32)) ⟨w.heap.size + 1, 0, none⟩ = some (.int .i64 ex) := by simp [go_sem]
  have q1 : World.cell? (((w.alloc (.cells #[.slice SA S.length SC, .slice NA N.length NC] 25)).alloc (.cells #[.int .i64 ex, .int .i64 ey, .int .i64 ez] 27)).alloc (.cells #[.int .i64 0, .int .i64 0] 32)) ⟨w.heap.size + 1, 1, none⟩ = some (.int .i64 ey) := by simp [go_sem]
  have q2 : World.cell? (((w.alloc (.cells #[.slice SA S.length SC, .slice NA N.length NC] 25)).alloc (.cells #[.int .i64 ex, .int .i64 ey, .int .i64 ez] 27)).alloc (.cells #[.int .i64 0, .int .i64 0] 32)) ⟨w.heap.size + 1, 2, none⟩ = some (.int .i64 ez) := by simp [go_sem]
  have lq : w.heap.size + 1 < (((w.alloc (.cells #[.slice SA S.length SC, .slice NA N.length NC] 25)).alloc (.cells #[.int .i64 ex, .int .i64 ey, .int .i64 ez] 27)).alloc (.cells #[.int .i64 0, .int .i64 0] 32)).heap.size := by simp <;> omega
  have o0 : World.cell? (((w.alloc (.cells #[.slice SA S.length SC, .slice NA N.length NC] 25)).alloc (.cells #[.int .i64 ex, .int .i64 ey, .int .i64 ez] 27)).alloc (.cells #[.int .i64 0, .int .i64 0] 32)) ⟨w.heap.size + 1 + 1, 0, none⟩ = some (.int .i64 0) := by simp [go_sem]
  have fo0 : World.frozen? (((w.alloc (.cells #[.slice SA S.length SC, .slice NA N.length NC] 25)).alloc (.cells #[.int .i64 ex, .int .i64 ey, .int .i64 ez] 27)).alloc (.cells #[.int .i64 0, .int .i64 0] 32)) ⟨w.heap.size + 1 + 1, 0, none⟩ = false := by simp [go_sem]
  have o1 : World.cell? (((w.alloc (.cells #[.slice SA S.length SC, .slice NA N.length NC] 25)).alloc (.cells #[.int .i64 ex, .int .i64 ey, .int .i64 ez] 27)).alloc (.cells #[.int .i64 0, .int .i64 0] 32)) ⟨w.heap.size + 1 + 1, 1, none⟩ = some (.int .i64 0) := by simp [go_sem]
  have fo1 : World.frozen? (((w.alloc (.cells #[.slice SA S.length SC, .slice NA N.length NC] 25)).alloc (.cells #[.int .i64 ex, .int .i64 ey, .int .i64 ez] 27)).alloc (.cells #[.int .i64 0, .int .i64 0] 32)) ⟨w.heap.size + 1 + 1, 1, none⟩ = false := by simp [go_sem]
  have lo : w.heap.size + 1 + 1 < (((w.alloc (.cells #[.slice SA S.length SC, .slice NA N.length NC] 25)).alloc (.cells #[.int .i64 ex, .int .i64 ey, .int .i64 ez] 27)).alloc (.cells #[.int .i64 0, .int .i64 0] 32)).heap.size := by simp <;> omega
  have HB := Lib.hid (show Below w.heap.size w (((w.alloc (.cells #[.slice SA S.length SC, .slice NA N.length NC] 25)).alloc (.cells #[.int .i64 ex, .int .i64 ey, .int .i64 ez] 27)).alloc (.cells #[.int .i64 0, .int .i64 0] 32)) from ((((Below.refl _ _).alloc (by simp <;> omega) _).alloc (by simp <;> omega) _).alloc (by simp <;> omega) _))
  go_enter Try.func8, Try.ntmps8
  go_upto_region 1 with fail
  generalize ((w.alloc (.cells #[.slice SA S.length SC, .slice NA N.length NC] 25)).alloc (.cells #[.int .i64 ex, .int .i64 ey, .int .i64 ez] 27)).alloc (.cells #[.int .i64 0, .int .i64 0] 32) = w1 at *
  replace HN := Lib.hid (HN.out.below HB.out)
  replace HM := Lib.hid (HM.out.below HB.out)
  replace HO := Lib.hid (HO.out.below HB.out)
  go_wp2_with fail
  with_reducible refine (CE.out _ HN.out HM.out HO.out).mono ?_
  rintro e_ w2 ⟨rfl, hb⟩
  replace HB := Lib.hid (on_below HB.out hb)
  replace HN := Lib.hid (HN.out.below hb)
  replace HM := Lib.hid (HM.out.below hb)
  replace HO := Lib.hid (HO.out.below hb)
  replace p0 := keepc hb p0
  replace p1 := keepc hb p1
  replace q0 := keepc hb q0
  replace q1 := keepc hb q1
  replace q2 := keepc hb q2
  replace o0 := keepc hb o0
  replace o1 := keepc hb o1
  replace fo0 := keepf hb lo fo0
  replace fo1 := keepf hb lo fo1
  replace lp := Nat.lt_of_lt_of_le lp hb.size
  replace lq := Nat.lt_of_lt_of_le lq hb.size
  replace lo := Nat.lt_of_lt_of_le lo hb.size
  clear hb
  go_wp2_with fail
  refine bodyPost_ret (v := .tuple #[.agg #[.int .i64 0, .int .i64 0], .int .i64 0, .int .i64 E]) (by simp [results, Try.results8, go_sem, o0, o1, lo]) rfl ⟨rfl, ?_⟩
  repeat (first | (with_reducible exact HB.out) | (refine Below.setCell ?_ (by first | exact Nat.le_refl _ | (simp; done) | (simp; omega) | omega) _) | (refine Below.alloc ?_ (by first | exact Nat.le_refl _ | (simp; done) | (simp; omega) | omega) _) | (refine Below.drew ?_) | (refine below_drewN' ?_ _))
set_option maxRecDepth 100000 in
set_option maxHeartbeats 4000000 in
theorem worst_1 (SA : Option Addr) (SC : Nat) (S : List Bv) (NA : Option Addr) (NC : Nat) (N : List Sv) (ex ey ez : Int) (OA : Option Addr) (OC : Nat) (O : List Bv) (hs : Sml S N) (ho0 : O.length ≤ 1000) (hok : Ok3 S N ex ey ez O) (hlm : Lim S.length O.length N) (rn rd ri : Int) (hrn : lfN (shn ex ey ez S O) N N.length = rn) (hrd : lfD (shn ex ey ez S O) N N.length = rd) (hri : lfI (shn ex ey ez S O) N N.length = ri) (w : World) (hn : SvS w NA N) (hm : BdS w SA S) (ho : BdS w OA O) :
    Calls Try.prog 8 #[.agg #[.slice SA S.length SC, .slice NA N.length NC], .agg #[.int .i64 ex, .int .i64 ey, .int .i64 ez], .slice OA O.length OC] w fun e_ w' => e_ = .returned (.tuple #[.agg #[.int .i64 rn, .int .i64 rd], .int .i64 ri, .int .i64 0]) ∧ Below w.heap.size w w' := by
  have CE := Lib.hid (fun W (a : SvS W NA N) (b : BdS W SA S) (c : BdS W OA O) => err_is SA SC S NA NC N ex ey ez OA OC O hs ho0 0 (Or.inr (Or.inr ⟨hok, hlm, rfl⟩)) W a b c)
  have z0 : ((0 : Int) != 0) = false := rfl
  have CS := Lib.hid (fun W => shs_any SA S.length SC NA N.length NC ex ey ez OA O.length OC W)
  have CF := Lib.hid (fun gp ge go W (a : SvS W NA N) (b : BdS W SA S) (c : BdS W OA O) kp ke ko => fleast_is gp ge go SA SC S NA NC N ex ey ez OA OC O hok hlm rn rd ri hrn hrd hri W a b c kp ke ko)
  clear hs hok hlm hrn hrd hri
  have HN := Lib.hid hn
  clear hn
  have HM := Lib.hid hm
  clear hm
  have HO := Lib.hid ho
  clear ho
  have p0 : World.cell? (((w.alloc (.cells #[.slice SA S.length SC, .slice NA N.length NC] 25)).alloc (.cells #[.int .i64 ex, .int .i64 ey, .int .i64 ez] 27)).alloc (.cells #[.int .i64 0, .int .i64 0] 32)) ⟨w.heap.size, 0, none⟩ = some (.slice SA S.length SC) := by simp [go_sem]
  have p1 : World.cell? (((w.alloc (.cells #[.slice SA S.length SC, .slice NA N.length NC] 25)).alloc (.cells #[.int .i64 ex, .int .i64 ey, .int .i64 ez] 27)).alloc (.cells #[.int .i64 0, .int .i64 0] 32)) ⟨w.heap.size, 1, none⟩ = some (.slice NA N.length NC) := by simp [go_sem]
  have lp : w.heap.size < (((w.alloc (.cells #[.slice SA S.length SC, .slice NA N.length NC] 25)).alloc (.cells #[.int .i64 ex, .int .i64 ey, .int .i64 ez] 27)).alloc (.cells #[.int .i64 0, .int .i64 0] 32)).heap.size := by simp <;> omega
  have q0 : World.cell? (((w.alloc (.cells #[.slice SA S.length SC, .slice NA N.length NC] 25)).alloc (.cells #[.int .i64 ex, .int .i64 ey, .int .i64 ez] 27)).alloc (.cells #[.int .i64 0, .int .i64 0] 32)) ⟨w.heap.size + 1, 0, none⟩ = some (.int .i64 ex) := by simp [go_sem]
  have q1 : World.cell? (((w.alloc (.cells #[.slice SA S.length SC, .slice NA N.length NC] 25)).alloc (.cells #[.int .i64 ex, .int .i64 ey, .int .i64 ez] 27)).alloc (.cells #[.int .i64 0, .int .i64 0] 32)) ⟨w.heap.size + 1, 1, none⟩ = some (.int .i64 ey) := by simp [go_sem]
  have q2 : World.cell? (((w.alloc (.cells #[.slice SA S.length SC, .slice NA N.length NC] 25)).alloc (.cells #[.int .i64 ex, .int .i64 ey, .int .i64 ez] 27)).alloc (.cells #[.int .i64 0, .int .i64 0] 32)) ⟨w.heap.size + 1, 2, none⟩ = some (.int .i64 ez) := by simp [go_sem]
  have lq : w.heap.size + 1 < (((w.alloc (.cells #[.slice SA S.length SC, .slice NA N.length NC] 25)).alloc (.cells #[.int .i64 ex, .int .i64 ey, .int .i64 ez] 27)).alloc (.cells #[.int .i64 0, .int .i64 0] 32)).heap.size := by simp <;> omega
  have o0 : World.cell? (((w.alloc (.cells #[.slice SA S.length SC, .slice NA N.length NC] 25)).alloc (.cells #[.int .i64 ex, .int .i64 ey, .int .i64 ez] 27)).alloc (.cells #[.int .i64 0, .int .i64 0] 32)) ⟨w.heap.size + 1 + 1, 0, none⟩ = some (.int .i64 0) := by simp [go_sem]
  have fo0 : World.frozen? (((w.alloc (.cells #[.slice SA S.length SC, .slice NA N.length NC] 25)).alloc (.cells #[.int .i64 ex, .int .i64 ey, .int .i64 ez] 27)).alloc (.cells #[.int .i64 0, .int .i64 0] 32)) ⟨w.heap.size + 1 + 1, 0, none⟩ = false := by simp [go_sem]
  have o1 : World.cell? (((w.alloc (.cells #[.slice SA S.length SC, .slice NA N.length NC] 25)).alloc (.cells #[.int .i64 ex, .int .i64 ey, .int .i64 ez] 27)).alloc (.cells #[.int .i64 0, .int .i64 0] 32)) ⟨w.heap.size + 1 + 1, 1, none⟩ = some (.int .i64 0) := by simp [go_sem]
  have fo1 : World.frozen? (((w.alloc (.cells #[.slice SA S.length SC, .slice NA N.length NC] 25)).alloc (.cells #[.int .i64 ex, .int .i64 ey, .int .i64 ez] 27)).alloc (.cells #[.int .i64 0, .int .i64 0] 32)) ⟨w.heap.size + 1 + 1, 1, none⟩ = false := by simp [go_sem]
  have lo : w.heap.size + 1 + 1 < (((w.alloc (.cells #[.slice SA S.length SC, .slice NA N.length NC] 25)).alloc (.cells #[.int .i64 ex, .int .i64 ey, .int .i64 ez] 27)).alloc (.cells #[.int .i64 0, .int .i64 0] 32)).heap.size := by simp <;> omega
  have HB := Lib.hid (show Below w.heap.size w (((w.alloc (.cells #[.slice SA S.length SC, .slice NA N.length NC] 25)).alloc (.cells #[.int .i64 ex, .int .i64 ey, .int .i64 ez] 27)).alloc (.cells #[.int .i64 0, .int .i64 0] 32)) from ((((Below.refl _ _).alloc (by simp <;> omega) _).alloc (by simp <;> omega) _).alloc (by simp <;> omega) _))
  go_enter Try.func8, Try.ntmps8
  go_upto_region 1 with fail
  generalize ((w.alloc (.cells #[.slice SA S.length SC, .slice NA N.length NC] 25)).alloc (.cells #[.int .i64 ex, .int .i64 ey, .int .i64 ez] 27)).alloc (.cells #[.int .i64 0, .int .i64 0] 32) = w1 at *
  replace HN := Lib.hid (HN.out.below HB.out)
  replace HM := Lib.hid (HM.out.below HB.out)
  replace HO := Lib.hid (HO.out.below HB.out)
  go_wp2_with fail
  with_reducible refine (CE.out _ HN.out HM.out HO.out).mono ?_
  rintro e_ w2 ⟨rfl, hb⟩
  replace HB := Lib.hid (on_below HB.out hb)
  replace HN := Lib.hid (HN.out.below hb)
  replace HM := Lib.hid (HM.out.below hb)
  replace HO := Lib.hid (HO.out.below hb)
  replace p0 := keepc hb p0
  replace p1 := keepc hb p1
  replace q0 := keepc hb q0
  replace q1 := keepc hb q1
  replace q2 := keepc hb q2
  replace o0 := keepc hb o0
  replace o1 := keepc hb o1
  replace fo0 := keepf hb lo fo0
  replace fo1 := keepf hb lo fo1
  replace lp := Nat.lt_of_lt_of_le lp hb.size
  replace lq := Nat.lt_of_lt_of_le lq hb.size
  replace lo := Nat.lt_of_lt_of_le lo hb.size
  clear hb
  go_wp2_with fail
  with_reducible refine (CS.out _).mono ?_
  rintro e_ w3 ⟨rfl, hw_⟩
  obtain ⟨hb, _, k0, k1, k2⟩ := allocs3 _ _ _ _ hw_.symm
  clear hw_
  replace HB := Lib.hid (on_below HB.out hb)
  replace HN := Lib.hid (HN.out.below hb)
  replace HM := Lib.hid (HM.out.below hb)
  replace HO := Lib.hid (HO.out.below hb)
  replace p0 := keepc hb p0
  replace p1 := keepc hb p1
  replace q0 := keepc hb q0
  replace q1 := keepc hb q1
  replace q2 := keepc hb q2
  replace o0 := keepc hb o0
  replace o1 := keepc hb o1
  replace fo0 := keepf hb lo fo0
  replace fo1 := keepf hb lo fo1
  replace lp := Nat.lt_of_lt_of_le lp hb.size
  replace lq := Nat.lt_of_lt_of_le lq hb.size
  replace lo := Nat.lt_of_lt_of_le lo hb.size
  clear hb
  go_wp2_with fail
  with_reducible refine (CF.out w2.heap.size (w2.heap.size + 1) (w2.heap.size + 1 + 1) _ HN.out HM.out HO.out k0 k1 k2).mono ?_
  rintro e_ w4 ⟨rfl, hb⟩
  clear k0 k1 k2
  replace HB := Lib.hid (on_below HB.out hb)
  replace HN := Lib.hid (HN.out.below hb)
  replace HM := Lib.hid (HM.out.below hb)
  replace HO := Lib.hid (HO.out.below hb)
  replace p0 := keepc hb p0
  replace p1 := keepc hb p1
  replace q0 := keepc hb q0
  replace q1 := keepc hb q1
  replace q2 := keepc hb q2
  replace o0 := keepc hb o0
  replace o1 := keepc hb o1
  replace fo0 := keepf hb lo fo0
  replace fo1 := keepf hb lo fo1
  replace lp := Nat.lt_of_lt_of_le lp hb.size
  replace lq := Nat.lt_of_lt_of_le lq hb.size
  replace lo := Nat.lt_of_lt_of_le lo hb.size
  clear hb
  obtain ⟨n0, n1, _, _⟩ := two_cells (show (w4.alloc (.cells #[.int .i64 rn, .int .i64 rd] 32)).heap[w4.heap.size]? = some (.cells #[.int .i64 rn, .int .i64 rd] 32 (0, 0)) from World.alloc_heap_new _ _)
  have hb := below_new w4 (.cells #[.int .i64 rn, .int .i64 rd] 32)
  have HB9 := Lib.hid (on_below HB.out hb)
  replace o0 := keepc hb o0
  replace o1 := keepc hb o1
  replace fo0 := keepf hb lo fo0
  replace fo1 := keepf hb lo fo1
  replace lo := Nat.lt_of_lt_of_le lo hb.size
  clear hb HB
  have HB := HB9
  clear HB9
  go_wp2_with fail
  refine bodyPost_ret (v := .tuple #[.agg #[.int .i64 rn, .int .i64 rd], .int .i64 ri, .int .i64 0]) (by simp [results, Try.results8, go_sem, o0, o1, lo]) rfl ⟨rfl, ?_⟩
  repeat (first | (with_reducible exact HB.out) | (refine Below.setCell ?_ (by first | exact Nat.le_refl _ | (simp; done) | (simp; omega) | omega) _) | (refine Below.alloc ?_ (by first | exact Nat.le_refl _ | (simp; done) | (simp; omega) | omega) _) | (refine Below.drew ?_) | (refine below_drewN' ?_ _))
set_option maxRecDepth 100000 in
set_option maxHeartbeats 2000000 in
theorem keeps_0 (SA : Option Addr) (SC : Nat) (S : List Bv) (NA : Option Addr) (NC : Nat) (N : List Sv) (ex ey ez : Int) (OA : Option Addr) (OC : Nat) (O : List Bv) (hs : Sml S N) (ho0 : O.length ≤ 1000) (kn kd : Int) (ikn : I64 kn) (ikd : I64 kd) (hv : vld kn kd = false) (w : World) :
    Calls Try.prog 9 #[.agg #[.slice SA S.length SC, .slice NA N.length NC], .agg #[.int .i64 ex, .int .i64 ey, .int .i64 ez], .slice OA O.length OC, .agg #[.int .i64 kn, .int .i64 kd]] w fun e_ w' => e_ = .returned (.tuple #[.bool false, .int .i64 1]) ∧ Below w.heap.size w w' := by
  have CV := Lib.hid (fun W => rvalid_any kn kd W ikn.1 ikn.2 ikd.1 ikd.2)
  rw [hv] at CV
  clear hv ikn ikd
  have p0 : World.cell? (((w.alloc (.cells #[.slice SA S.length SC, .slice NA N.length NC] 25)).alloc (.cells #[.int .i64 ex, .int .i64 ey, .int .i64 ez] 27)).alloc (.cells #[.int .i64 kn, .int .i64 kd] 32)) ⟨w.heap.size, 0, none⟩ = some (.slice SA S.length SC) := by simp [go_sem]
  have p1 : World.cell? (((w.alloc (.cells #[.slice SA S.length SC, .slice NA N.length NC] 25)).alloc (.cells #[.int .i64 ex, .int .i64 ey, .int .i64 ez] 27)).alloc (.cells #[.int .i64 kn, .int .i64 kd] 32)) ⟨w.heap.size, 1, none⟩ = some (.slice NA N.length NC) := by simp [go_sem]
  have lp : w.heap.size < (((w.alloc (.cells #[.slice SA S.length SC, .slice NA N.length NC] 25)).alloc (.cells #[.int .i64 ex, .int .i64 ey, .int .i64 ez] 27)).alloc (.cells #[.int .i64 kn, .int .i64 kd] 32)).heap.size := by simp <;> omega
  have q0 : World.cell? (((w.alloc (.cells #[.slice SA S.length SC, .slice NA N.length NC] 25)).alloc (.cells #[.int .i64 ex, .int .i64 ey, .int .i64 ez] 27)).alloc (.cells #[.int .i64 kn, .int .i64 kd] 32)) ⟨w.heap.size + 1, 0, none⟩ = some (.int .i64 ex) := by simp [go_sem]
  have q1 : World.cell? (((w.alloc (.cells #[.slice SA S.length SC, .slice NA N.length NC] 25)).alloc (.cells #[.int .i64 ex, .int .i64 ey, .int .i64 ez] 27)).alloc (.cells #[.int .i64 kn, .int .i64 kd] 32)) ⟨w.heap.size + 1, 1, none⟩ = some (.int .i64 ey) := by simp [go_sem]
  have q2 : World.cell? (((w.alloc (.cells #[.slice SA S.length SC, .slice NA N.length NC] 25)).alloc (.cells #[.int .i64 ex, .int .i64 ey, .int .i64 ez] 27)).alloc (.cells #[.int .i64 kn, .int .i64 kd] 32)) ⟨w.heap.size + 1, 2, none⟩ = some (.int .i64 ez) := by simp [go_sem]
  have lq : w.heap.size + 1 < (((w.alloc (.cells #[.slice SA S.length SC, .slice NA N.length NC] 25)).alloc (.cells #[.int .i64 ex, .int .i64 ey, .int .i64 ez] 27)).alloc (.cells #[.int .i64 kn, .int .i64 kd] 32)).heap.size := by simp <;> omega
  have r0 : World.cell? (((w.alloc (.cells #[.slice SA S.length SC, .slice NA N.length NC] 25)).alloc (.cells #[.int .i64 ex, .int .i64 ey, .int .i64 ez] 27)).alloc (.cells #[.int .i64 kn, .int .i64 kd] 32)) ⟨w.heap.size + 1 + 1, 0, none⟩ = some (.int .i64 kn) := by simp [go_sem]
  have r1 : World.cell? (((w.alloc (.cells #[.slice SA S.length SC, .slice NA N.length NC] 25)).alloc (.cells #[.int .i64 ex, .int .i64 ey, .int .i64 ez] 27)).alloc (.cells #[.int .i64 kn, .int .i64 kd] 32)) ⟨w.heap.size + 1 + 1, 1, none⟩ = some (.int .i64 kd) := by simp [go_sem]
  have lr : w.heap.size + 1 + 1 < (((w.alloc (.cells #[.slice SA S.length SC, .slice NA N.length NC] 25)).alloc (.cells #[.int .i64 ex, .int .i64 ey, .int .i64 ez] 27)).alloc (.cells #[.int .i64 kn, .int .i64 kd] 32)).heap.size := by simp <;> omega
  have HB := Lib.hid (show Below w.heap.size w (((w.alloc (.cells #[.slice SA S.length SC, .slice NA N.length NC] 25)).alloc (.cells #[.int .i64 ex, .int .i64 ey, .int .i64 ez] 27)).alloc (.cells #[.int .i64 kn, .int .i64 kd] 32)) from ((((Below.refl _ _).alloc (by simp <;> omega) _).alloc (by simp <;> omega) _).alloc (by simp <;> omega) _))
  go_enter Try.func9, Try.ntmps9
  go_upto_region 1 with fail
  generalize ((w.alloc (.cells #[.slice SA S.length SC, .slice NA N.length NC] 25)).alloc (.cells #[.int .i64 ex, .int .i64 ey, .int .i64 ez] 27)).alloc (.cells #[.int .i64 kn, .int .i64 kd] 32) = w1 at *
  go_wp2_with fail
  with_reducible refine (CV.out _).mono ?_
  rintro e_ w2 ⟨rfl, hb⟩
  replace HB := Lib.hid (on_below HB.out hb)
  replace p0 := keepc hb p0
  replace p1 := keepc hb p1
  replace q0 := keepc hb q0
  replace q1 := keepc hb q1
  replace q2 := keepc hb q2
  replace r0 := keepc hb r0
  replace r1 := keepc hb r1
  replace lp := Nat.lt_of_lt_of_le lp hb.size
  replace lq := Nat.lt_of_lt_of_le lq hb.size
  replace lr := Nat.lt_of_lt_of_le lr hb.size
  clear hb
  go_wp2_with fail
  go_ret2
  exact ⟨rfl, HB.out⟩
set_option maxRecDepth 100000 in
set_option maxHeartbeats 2000000 in
theorem keeps_1 (SA : Option Addr) (SC : Nat) (S : List Bv) (NA : Option Addr) (NC : Nat) (N : List Sv) (ex ey ez : Int) (OA : Option Addr) (OC : Nat) (O : List Bv) (hs : Sml S N) (ho0 : O.length ≤ 1000) (kn kd : Int) (ikn : I64 kn) (ikd : I64 kd) (hv : vld kn kd = true) (n d E : Int) (hR : TotR S N ex ey ez O n d E) (h0 : E ≠ 0) (w : World) (hn : SvS w NA N) (hm : BdS w SA S) (ho : BdS w OA O) :
    Calls Try.prog 9 #[.agg #[.slice SA S.length SC, .slice NA N.length NC], .agg #[.int .i64 ex, .int .i64 ey, .int .i64 ez], .slice OA O.length OC, .agg #[.int .i64 kn, .int .i64 kd]] w fun e_ w' => e_ = .returned (.tuple #[.bool false, .int .i64 E]) ∧ Below w.heap.size w w' := by
  have CV := Lib.hid (fun W => rvalid_any kn kd W ikn.1 ikn.2 ikd.1 ikd.2)
  rw [hv] at CV
  have CT := Lib.hid (fun W (a : SvS W NA N) (b : BdS W SA S) (c : BdS W OA O) => total_is SA SC S NA NC N ex ey ez OA OC O hs ho0 n d E hR W a b c)
  have z0 : (E != 0) = true := by simp [h0]
  clear h0
  clear hv ikn ikd hs hR
  have HN := Lib.hid hn
  clear hn
  have HM := Lib.hid hm
  clear hm
  have HO := Lib.hid ho
  clear ho
  have p0 : World.cell? (((w.alloc (.cells #[.slice SA S.length SC, .slice NA N.length NC] 25)).alloc (.cells #[.int .i64 ex, .int .i64 ey, .int .i64 ez] 27)).alloc (.cells #[.int .i64 kn, .int .i64 kd] 32)) ⟨w.heap.size, 0, none⟩ = some (.slice SA S.length SC) := by simp [go_sem]
  have p1 : World.cell? (((w.alloc (.cells #[.slice SA S.length SC, .slice NA N.length NC] 25)).alloc (.cells #[.int .i64 ex, .int .i64 ey, .int .i64 ez] 27)).alloc (.cells #[.int .i64 kn, .int .i64 kd] 32)) ⟨w.heap.size, 1, none⟩ = some (.slice NA N.length NC) := by simp [go_sem]
  have lp : w.heap.size < (((w.alloc (.cells #[.slice SA S.length SC, .slice NA N.length NC] 25)).alloc (.cells #[.int .i64 ex, .int .i64 ey, .int .i64 ez] 27)).alloc (.cells #[.int .i64 kn, .int .i64 kd] 32)).heap.size := by simp <;> omega
  have q0 : World.cell? (((w.alloc (.cells #[.slice SA S.length SC, .slice NA N.length NC] 25)).alloc (.cells #[.int .i64 ex, .int .i64 ey, .int .i64 ez] 27)).alloc (.cells #[.int .i64 kn, .int .i64 kd] 32)) ⟨w.heap.size + 1, 0, none⟩ = some (.int .i64 ex) := by simp [go_sem]
  have q1 : World.cell? (((w.alloc (.cells #[.slice SA S.length SC, .slice NA N.length NC] 25)).alloc (.cells #[.int .i64 ex, .int .i64 ey, .int .i64 ez] 27)).alloc (.cells #[.int .i64 kn, .int .i64 kd] 32)) ⟨w.heap.size + 1, 1, none⟩ = some (.int .i64 ey) := by simp [go_sem]
  have q2 : World.cell? (((w.alloc (.cells #[.slice SA S.length SC, .slice NA N.length NC] 25)).alloc (.cells #[.int .i64 ex, .int .i64 ey, .int .i64 ez] 27)).alloc (.cells #[.int .i64 kn, .int .i64 kd] 32)) ⟨w.heap.size + 1, 2, none⟩ = some (.int .i64 ez) := by simp [go_sem]
  have lq : w.heap.size + 1 < (((w.alloc (.cells #[.slice SA S.length SC, .slice NA N.length NC] 25)).alloc (.cells #[.int .i64 ex, .int .i64 ey, .int .i64 ez] 27)).alloc (.cells #[.int .i64 kn, .int .i64 kd] 32)).heap.size := by simp <;> omega
  have r0 : World.cell? (((w.alloc (.cells #[.slice SA S.length SC, .slice NA N.length NC] 25)).alloc (.cells #[.int .i64 ex, .int .i64 ey, .int .i64 ez] 27)).alloc (.cells #[.int .i64 kn, .int .i64 kd] 32)) ⟨w.heap.size + 1 + 1, 0, none⟩ = some (.int .i64 kn) := by simp [go_sem]
  have r1 : World.cell? (((w.alloc (.cells #[.slice SA S.length SC, .slice NA N.length NC] 25)).alloc (.cells #[.int .i64 ex, .int .i64 ey, .int .i64 ez] 27)).alloc (.cells #[.int .i64 kn, .int .i64 kd] 32)) ⟨w.heap.size + 1 + 1, 1, none⟩ = some (.int .i64 kd) := by simp [go_sem]
  have lr : w.heap.size + 1 + 1 < (((w.alloc (.cells #[.slice SA S.length SC, .slice NA N.length NC] 25)).alloc (.cells #[.int .i64 ex, .int .i64 ey, .int .i64 ez] 27)).alloc (.cells #[.int .i64 kn, .int .i64 kd] 32)).heap.size := by simp <;> omega
  have HB := Lib.hid (show Below w.heap.size w (((w.alloc (.cells #[.slice SA S.length SC, .slice NA N.length NC] 25)).alloc (.cells #[.int .i64 ex, .int .i64 ey, .int .i64 ez] 27)).alloc (.cells #[.int .i64 kn, .int .i64 kd] 32)) from ((((Below.refl _ _).alloc (by simp <;> omega) _).alloc (by simp <;> omega) _).alloc (by simp <;> omega) _))
  go_enter Try.func9, Try.ntmps9
  go_upto_region 1 with fail
  generalize ((w.alloc (.cells #[.slice SA S.length SC, .slice NA N.length NC] 25)).alloc (.cells #[.int .i64 ex, .int .i64 ey, .int .i64 ez] 27)).alloc (.cells #[.int .i64 kn, .int .i64 kd] 32) = w1 at *
  replace HN := Lib.hid (HN.out.below HB.out)
  replace HM := Lib.hid (HM.out.below HB.out)
  replace HO := Lib.hid (HO.out.below HB.out)
  go_wp2_with fail
  with_reducible refine (CV.out _).mono ?_
  rintro e_ w2 ⟨rfl, hb⟩
  replace HB := Lib.hid (on_below HB.out hb)
  replace HN := Lib.hid (HN.out.below hb)
  replace HM := Lib.hid (HM.out.below hb)
  replace HO := Lib.hid (HO.out.below hb)
  replace p0 := keepc hb p0
  replace p1 := keepc hb p1
  replace q0 := keepc hb q0
  replace q1 := keepc hb q1
  replace q2 := keepc hb q2
  replace r0 := keepc hb r0
  replace r1 := keepc hb r1
  replace lp := Nat.lt_of_lt_of_le lp hb.size
  replace lq := Nat.lt_of_lt_of_le lq hb.size
  replace lr := Nat.lt_of_lt_of_le lr hb.size
  clear hb
  go_wp2_with fail
  with_reducible refine (CT.out _ HN.out HM.out HO.out).mono ?_
  rintro e_ w3 ⟨rfl, hb⟩
  replace HB := Lib.hid (on_below HB.out hb)
  replace HN := Lib.hid (HN.out.below hb)
  replace HM := Lib.hid (HM.out.below hb)
  replace HO := Lib.hid (HO.out.below hb)
  replace p0 := keepc hb p0
  replace p1 := keepc hb p1
  replace q0 := keepc hb q0
  replace q1 := keepc hb q1
  replace q2 := keepc hb q2
  replace r0 := keepc hb r0
  replace r1 := keepc hb r1
  replace lp := Nat.lt_of_lt_of_le lp hb.size
  replace lq := Nat.lt_of_lt_of_le lq hb.size
  replace lr := Nat.lt_of_lt_of_le lr hb.size
  clear hb
  go_wp2_with fail
  go_ret2
  exact ⟨rfl, on_below HB.out (below_new _ _)⟩
set_option maxRecDepth 100000 in
set_option maxHeartbeats 2000000 in
theorem keeps_2 (SA : Option Addr) (SC : Nat) (S : List Bv) (NA : Option Addr) (NC : Nat) (N : List Sv) (ex ey ez : Int) (OA : Option Addr) (OC : Nat) (O : List Bv) (hs : Sml S N) (ho0 : O.length ≤ 1000) (kn kd : Int) (ikn : I64 kn) (ikd : I64 kd) (hv : vld kn kd = true) (n d s : Int) (hR : TotR S N ex ey ez O n d 0) (hs2 : sgn (n * kd) (kn * d) = s) (r : Bool) (hr : decide (0 ≤ s) = r) (w : World) (hn : SvS w NA N) (hm : BdS w SA S) (ho : BdS w OA O) :
    Calls Try.prog 9 #[.agg #[.slice SA S.length SC, .slice NA N.length NC], .agg #[.int .i64 ex, .int .i64 ey, .int .i64 ez], .slice OA O.length OC, .agg #[.int .i64 kn, .int .i64 kd]] w fun e_ w' => e_ = .returned (.tuple #[.bool r, .int .i64 0]) ∧ Below w.heap.size w w' := by
  have CV := Lib.hid (fun W => rvalid_any kn kd W ikn.1 ikn.2 ikd.1 ikd.2)
  rw [hv] at CV
  have CT := Lib.hid (fun W (a : SvS W NA N) (b : BdS W SA S) (c : BdS W OA O) => total_is SA SC S NA NC N ex ey ez OA OC O hs ho0 n d 0 hR W a b c)
  have z0 : ((0 : Int) != 0) = false := rfl
  have CC := Lib.hid (fun W => scmp_is n d kn kd s (tot_vld hR).1 hv hs2 W)
  clear hs2
  clear hv ikn ikd hs hR
  have HN := Lib.hid hn
  clear hn
  have HM := Lib.hid hm
  clear hm
  have HO := Lib.hid ho
  clear ho
  have p0 : World.cell? (((w.alloc (.cells #[.slice SA S.length SC, .slice NA N.length NC] 25)).alloc (.cells #[.int .i64 ex, .int .i64 ey, .int .i64 ez] 27)).alloc (.cells #[.int .i64 kn, .int .i64 kd] 32)) ⟨w.heap.size, 0, none⟩ = some (.slice SA S.length SC) := by simp [go_sem]
  have p1 : World.cell? (((w.alloc (.cells #[.slice SA S.length SC, .slice NA N.length NC] 25)).alloc (.cells #[.int .i64 ex, .int .i64 ey, .int .i64 ez] 27)).alloc (.cells #[.int .i64 kn, .int .i64 kd] 32)) ⟨w.heap.size, 1, none⟩ = some (.slice NA N.length NC) := by simp [go_sem]
  have lp : w.heap.size < (((w.alloc (.cells #[.slice SA S.length SC, .slice NA N.length NC] 25)).alloc (.cells #[.int .i64 ex, .int .i64 ey, .int .i64 ez] 27)).alloc (.cells #[.int .i64 kn, .int .i64 kd] 32)).heap.size := by simp <;> omega
  have q0 : World.cell? (((w.alloc (.cells #[.slice SA S.length SC, .slice NA N.length NC] 25)).alloc (.cells #[.int .i64 ex, .int .i64 ey, .int .i64 ez] 27)).alloc (.cells #[.int .i64 kn, .int .i64 kd] 32)) ⟨w.heap.size + 1, 0, none⟩ = some (.int .i64 ex) := by simp [go_sem]
  have q1 : World.cell? (((w.alloc (.cells #[.slice SA S.length SC, .slice NA N.length NC] 25)).alloc (.cells #[.int .i64 ex, .int .i64 ey, .int .i64 ez] 27)).alloc (.cells #[.int .i64 kn, .int .i64 kd] 32)) ⟨w.heap.size + 1, 1, none⟩ = some (.int .i64 ey) := by simp [go_sem]
  have q2 : World.cell? (((w.alloc (.cells #[.slice SA S.length SC, .slice NA N.length NC] 25)).alloc (.cells #[.int .i64 ex, .int .i64 ey, .int .i64 ez] 27)).alloc (.cells #[.int .i64 kn, .int .i64 kd] 32)) ⟨w.heap.size + 1, 2, none⟩ = some (.int .i64 ez) := by simp [go_sem]
  have lq : w.heap.size + 1 < (((w.alloc (.cells #[.slice SA S.length SC, .slice NA N.length NC] 25)).alloc (.cells #[.int .i64 ex, .int .i64 ey, .int .i64 ez] 27)).alloc (.cells #[.int .i64 kn, .int .i64 kd] 32)).heap.size := by simp <;> omega
  have r0 : World.cell? (((w.alloc (.cells #[.slice SA S.length SC, .slice NA N.length NC] 25)).alloc (.cells #[.int .i64 ex, .int .i64 ey, .int .i64 ez] 27)).alloc (.cells #[.int .i64 kn, .int .i64 kd] 32)) ⟨w.heap.size + 1 + 1, 0, none⟩ = some (.int .i64 kn) := by simp [go_sem]
  have r1 : World.cell? (((w.alloc (.cells #[.slice SA S.length SC, .slice NA N.length NC] 25)).alloc (.cells #[.int .i64 ex, .int .i64 ey, .int .i64 ez] 27)).alloc (.cells #[.int .i64 kn, .int .i64 kd] 32)) ⟨w.heap.size + 1 + 1, 1, none⟩ = some (.int .i64 kd) := by simp [go_sem]
  have lr : w.heap.size + 1 + 1 < (((w.alloc (.cells #[.slice SA S.length SC, .slice NA N.length NC] 25)).alloc (.cells #[.int .i64 ex, .int .i64 ey, .int .i64 ez] 27)).alloc (.cells #[.int .i64 kn, .int .i64 kd] 32)).heap.size := by simp <;> omega
  have HB := Lib.hid (show Below w.heap.size w (((w.alloc (.cells #[.slice SA S.length SC, .slice NA N.length NC] 25)).alloc (.cells #[.int .i64 ex, .int .i64 ey, .int .i64 ez] 27)).alloc (.cells #[.int .i64 kn, .int .i64 kd] 32)) from ((((Below.refl _ _).alloc (by simp <;> omega) _).alloc (by simp <;> omega) _).alloc (by simp <;> omega) _))
  go_enter Try.func9, Try.ntmps9
  go_upto_region 1 with fail
  generalize ((w.alloc (.cells #[.slice SA S.length SC, .slice NA N.length NC] 25)).alloc (.cells #[.int .i64 ex, .int .i64 ey, .int .i64 ez] 27)).alloc (.cells #[.int .i64 kn, .int .i64 kd] 32) = w1 at *
  replace HN := Lib.hid (HN.out.below HB.out)
  replace HM := Lib.hid (HM.out.below HB.out)
  replace HO := Lib.hid (HO.out.below HB.out)
  go_wp2_with fail
  with_reducible refine (CV.out _).mono ?_
  rintro e_ w2 ⟨rfl, hb⟩
  replace HB := Lib.hid (on_below HB.out hb)
  replace HN := Lib.hid (HN.out.below hb)
  replace HM := Lib.hid (HM.out.below hb)
  replace HO := Lib.hid (HO.out.below hb)
  replace p0 := keepc hb p0
  replace p1 := keepc hb p1
  replace q0 := keepc hb q0
  replace q1 := keepc hb q1
  replace q2 := keepc hb q2
  replace r0 := keepc hb r0
  replace r1 := keepc hb r1
  replace lp := Nat.lt_of_lt_of_le lp hb.size
  replace lq := Nat.lt_of_lt_of_le lq hb.size
  replace lr := Nat.lt_of_lt_of_le lr hb.size
  clear hb
  go_wp2_with fail
  with_reducible refine (CT.out _ HN.out HM.out HO.out).mono ?_
  rintro e_ w3 ⟨rfl, hb⟩
  replace HB := Lib.hid (on_below HB.out hb)
  replace HN := Lib.hid (HN.out.below hb)
  replace HM := Lib.hid (HM.out.below hb)
  replace HO := Lib.hid (HO.out.below hb)
  replace p0 := keepc hb p0
  replace p1 := keepc hb p1
  replace q0 := keepc hb q0
  replace q1 := keepc hb q1
  replace q2 := keepc hb q2
  replace r0 := keepc hb r0
  replace r1 := keepc hb r1
  replace lp := Nat.lt_of_lt_of_le lp hb.size
  replace lq := Nat.lt_of_lt_of_le lq hb.size
  replace lr := Nat.lt_of_lt_of_le lr hb.size
  clear hb
  obtain ⟨n0, n1, _, _⟩ := two_cells (show (w3.alloc (.cells #[.int .i64 n, .int .i64 d] 32)).heap[w3.heap.size]? = some (.cells #[.int .i64 n, .int .i64 d] 32 (0, 0)) from World.alloc_heap_new _ _)
  have hb := below_new w3 (.cells #[.int .i64 n, .int .i64 d] 32)
  have r0_ := keepc hb r0
  have r1_ := keepc hb r1
  go_wp2_with fail
  with_reducible refine (CC.out _).mono ?_
  rintro e_ w9 ⟨rfl, hb9⟩
  replace HB := Lib.hid (on_below HB.out (on_below hb hb9))
  clear hb hb9 n0 n1 r0_ r1_
  go_wp2_with fail
  go_ret2
  exact ⟨by first | rfl | simp [hr], HB.out⟩
/-- What Worst answers. -/
def WorR (S : List Bv) (N : List Sv) (ex ey ez : Int) (O : List Bv) (n d i E : Int) : Prop :=
  (E ≠ 0 ∧ ScE S N ex ey ez O E ∧ n = 0 ∧ d = 0 ∧ i = 0) ∨ (E = 0 ∧ Ok3 S N ex ey ez O ∧ Lim S.length O.length N ∧ qN ((shn ex ey ez S O) (gdV N (fle (shn ex ey ez S O) N N.length))) 100 = n ∧ qD ((shn ex ey ez S O) (gdV N (fle (shn ex ey ez S O) N N.length))) 100 = d ∧ (fle (shn ex ey ez S O) N N.length : Int) = i)
theorem worst_is (SA : Option Addr) (SC : Nat) (S : List Bv) (NA : Option Addr) (NC : Nat) (N : List Sv) (ex ey ez : Int) (OA : Option Addr) (OC : Nat) (O : List Bv) (hs : Sml S N) (ho0 : O.length ≤ 1000) (n d i E : Int) (hR : WorR S N ex ey ez O n d i E) (w : World) (hn : SvS w NA N) (hm : BdS w SA S) (ho : BdS w OA O) :
    Calls Try.prog 8 #[.agg #[.slice SA S.length SC, .slice NA N.length NC], .agg #[.int .i64 ex, .int .i64 ey, .int .i64 ez], .slice OA O.length OC] w fun e_ w' => e_ = .returned (.tuple #[.agg #[.int .i64 n, .int .i64 d], .int .i64 i, .int .i64 E]) ∧ Below w.heap.size w w' := by
  rcases hR with ⟨h, hE, rfl, rfl, rfl⟩ | ⟨rfl, h1, h2, h3, h4, h5⟩
  · exact worst_0 SA SC S NA NC N ex ey ez OA OC O hs ho0 E hE h w hn hm ho
  · have h0 : N.length ≠ 0 := by have := h1.1.1; omega
    exact worst_1 SA SC S NA NC N ex ey ez OA OC O hs ho0 h1 h2 n d i (by unfold lfN; rw [if_neg h0]; exact h3) (by unfold lfD; rw [if_neg h0]; exact h4) (by unfold lfI; rw [if_neg h0]; exact h5) w hn hm ho
/-- What Keeps answers. -/
def KpR (S : List Bv) (N : List Sv) (ex ey ez : Int) (O : List Bv) (kn kd : Int) (r : Bool) (E : Int) : Prop :=
  (vld kn kd = false ∧ r = false ∧ E = 1) ∨ (vld kn kd = true ∧ ∃ n d, TotR S N ex ey ez O n d E ∧ ((E ≠ 0 ∧ r = false) ∨ (E = 0 ∧ decide (0 ≤ sgn (n * kd) (kn * d)) = r)))
theorem keeps_is (SA : Option Addr) (SC : Nat) (S : List Bv) (NA : Option Addr) (NC : Nat) (N : List Sv) (ex ey ez : Int) (OA : Option Addr) (OC : Nat) (O : List Bv) (hs : Sml S N) (ho0 : O.length ≤ 1000) (kn kd : Int) (ikn : I64 kn) (ikd : I64 kd) (r : Bool) (E : Int) (hR : KpR S N ex ey ez O kn kd r E) (w : World) (hn : SvS w NA N) (hm : BdS w SA S) (ho : BdS w OA O) :
    Calls Try.prog 9 #[.agg #[.slice SA S.length SC, .slice NA N.length NC], .agg #[.int .i64 ex, .int .i64 ey, .int .i64 ez], .slice OA O.length OC, .agg #[.int .i64 kn, .int .i64 kd]] w fun e_ w' => e_ = .returned (.tuple #[.bool r, .int .i64 E]) ∧ Below w.heap.size w w' := by
  rcases hR with ⟨hv, rfl, rfl⟩ | ⟨hv, n, d, hT, ⟨h, rfl⟩ | ⟨rfl, h⟩⟩
  · exact keeps_0 SA SC S NA NC N ex ey ez OA OC O hs ho0 kn kd ikn ikd hv w
  · exact keeps_1 SA SC S NA NC N ex ey ez OA OC O hs ho0 kn kd ikn ikd hv n d E hT h w hn hm ho
  · exact keeps_2 SA SC S NA NC N ex ey ez OA OC O hs ho0 kn kd ikn ikd hv n d _ hT rfl r h w hn hm ho
end Go.Proofs.Ytiffgcipdamngaa
