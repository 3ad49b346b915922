/-
  Package sight: the iterator of the bodies that block. Package sight: the line of a way. Package sight: Lines.
-/
import Derived.Test.YtiffgcipdamngaaZSgtZA
import Derived.Test.YtiffgcipdamngaaZShpPS
import Derived.Test.YtiffgcipdamngaaZShpPC
import Derived.Test.YtiffgcipdamngaaZShpPH
import Derived.Laws.MakeOwn
namespace Go.Proofs.Ytiffgcipdamngaa
open Go.RowKit Go.Sort Go.Shelf
open Go.RowKit (Below)
set_option linter.unusedVariables false
set_option linter.unusedSimpArgs false

attribute [local go_sem] Oper.semAt_some
theorem blockers_any (a b c d e f : Int) (A : Option Addr) (n C : Nat) (w : World) :
    Calls Try.prog 68 #[.agg #[.int .i64 a, .int .i64 b, .int .i64 c, .int .i64 d, .int .i64 e, .int .i64 f], .slice A n C] w fun e_ w' => e_ = .returned (.func (.func 80) #[] #[.pointer (some ⟨w.heap.size + 1, 0, none⟩), .pointer (some ⟨w.heap.size, 0, none⟩)]) ∧
      w' = (w.alloc (.cells #[.int .i64 a, .int .i64 b, .int .i64 c, .int .i64 d, .int .i64 e, .int .i64 f] 99)).alloc (.cells #[.slice A n C] 22) := by
  go_enter Try.func68, Try.ntmps68
  go_wp2
  go_ret
  exact ⟨rfl, rfl⟩
theorem blockers_enter (args : Array Value) (W : World) : (callFunc 80 args).run Try.prog W = .ok (.enter 80 args) W := by simp [go_sem]
/-- The k-th round is given the k-th body that blocks, and where it does. -/
def BlkA (ex ey ez x y z : Int) (L : List Bv) (k : Nat) (args : Array Value) (W : World) : Prop :=
  ∃ i, i < L.length ∧ hit ex ey ez x y z (gdB L i) = true ∧ bcn (hit ex ey ez x y z) L i = k ∧
    args = #[.int .i64 i, .agg #[.int .i64 (rng ex ey ez x y z (gdB L i)).ln, .int .i64 (rng ex ey ez x y z (gdB L i)).ld, .int .i64 (rng ex ey ez x y z (gdB L i)).hn, .int .i64 (rng ex ey ez x y z (gdB L i)).hd]]
/-- A way between two points. -/
structure Wy (ex ey ez x y z : Int) : Prop where
  e : V3 ex ey ez
  p : V3 x y z
  n : ¬ (ex = x ∧ ey = y ∧ ez = z)
theorem clr_hit {ex ey ez x y z : Int} {L : List Bv} {i : Nat} (hw : Wy ex ey ez x y z) (hb : Bds L) (hi : i < L.length) (h : hit ex ey ez x y z (gdB L i) = true) :
    ClR (gdB L i).xs (gdB L i).lo (gdB L i).hi ex ey ez x y z ⟨(rng ex ey ez x y z (gdB L i)).ln, (rng ex ey ez x y z (gdB L i)).ld, (rng ex ey ez x y z (gdB L i)).hn, (rng ex ey ez x y z (gdB L i)).hd, true⟩ 0 :=
  Or.inr ⟨hb i hi, hw.e, hw.p, hw.n, rfl, clres_hit h⟩
theorem clr_no {ex ey ez x y z : Int} {L : List Bv} {i : Nat} (hw : Wy ex ey ez x y z) (hb : Bds L) (hi : i < L.length) (h : hit ex ey ez x y z (gdB L i) = false) :
    ClR (gdB L i).xs (gdB L i).lo (gdB L i).hi ex ey ez x y z ⟨0, 1, 0, 1, false⟩ 0 :=
  Or.inr ⟨hb i hi, hw.e, hw.p, hw.n, rfl, clres_no h⟩
theorem bok_len {L : List Bv} (hb : Bds L) {i : Nat} (hi : i < L.length) : (gdB L i).xs.length ≤ 9223372036854775806 := by have := (hb i hi).n8; omega
theorem bcn_hit {p : Bv → Bool} {L : List Bv} {k : Nat} (h : p (gdB L k) = true) : bcn p L (k + 1) = bcn p L k + 1 := by show _ + (if _ then 1 else 0) = _; rw [if_pos h]
theorem bcn_no {p : Bv → Bool} {L : List Bv} {k : Nat} (h : p (gdB L k) = false) : bcn p L (k + 1) = bcn p L k := by show _ + (if _ then 1 else 0) = _; rw [if_neg (by rw [h]; decide)]; rfl
theorem cells6 {W : World} {g : Nat} {a b c d e f : Value} {t : TypeId} {fz : Nat × Nat} (h : W.heap[g]? = some (.cells #[a, b, c, d, e, f] t fz)) : W.cell? ⟨g, 0, none⟩ = some a ∧ W.cell? ⟨g, 1, none⟩ = some b ∧ W.cell? ⟨g, 2, none⟩ = some c ∧ W.cell? ⟨g, 3, none⟩ = some d ∧ W.cell? ⟨g, 4, none⟩ = some e ∧ W.cell? ⟨g, 5, none⟩ = some f := by
  refine ⟨?_, ?_, ?_, ?_, ?_, ?_⟩ <;> simp [World.cell?, h]
set_option maxRecDepth 100000 in
set_option maxHeartbeats 4000000 in
theorem blockers_seq (n : Nat) (hn : 1 ≤ n) (gb gw : Nat) (ex ey ez x y z : Int) (A : Option Addr) (C : Nat) (L : List Bv) (hlen : L.length ≤ 9223372036854775806) (hw : Wy ex ey ez x y z) (hbd : Bds L) (w0 w : World) (hx : BdS w0 A L) (h0 : Below w0.heap.size w0 w)
    (hbox : Boxed w gb 22 (.slice A L.length C)) (hway : w.heap[gw]? = some (.cells #[.int .i64 ex, .int .i64 ey, .int .i64 ez, .int .i64 x, .int .i64 y, .int .i64 z] 99 (0, 0))) :
    SeqN n Try.prog 80 #[.pointer (some ⟨gb, 0, none⟩), .pointer (some ⟨gw, 0, none⟩)] (bcn (hit ex ey ez x y z) L L.length) (BlkA ex ey ez x y z L) (Kz w0.heap.size 32) w := by
  intro l J Jx W hW hJ hJx hY hJ0
  have HBX := Lib.hid (show Boxed W gb 22 (.slice A L.length C) from hbox.kept (grown_of hW) (by simp))
  have HWX := Lib.hid (show W.heap[gw]? = some (.cells #[.int .i64 ex, .int .i64 ey, .int .i64 ez, .int .i64 x, .int .i64 y, .int .i64 z] 99 (0, 0)) by rw [hW.block gw (Array.getElem?_eq_some_iff.1 hway).1]; exact hway)
  have HB0 := Lib.hid (show Below w0.heap.size w0 W from h0.trans (hW.mono h0.size))
  have HX := Lib.hid hx
  have HJ := Lib.hid hJ
  have HY := Lib.hid hY
  have H0 := Lib.hid hJ0
  have HWY := Lib.hid hw
  have HBD := Lib.hid hbd
  have hc := HBX.out.cell
  clear hW hJ hJx hY hJ0 h0 hx hbox hway hw hbd
  refine callsIn_of_wp Try.func80 rfl trivial ?_ rfl
  simp only [Try.ntmps80, List.size_toArray, List.length_cons, List.length_nil, Nat.reduceAdd, Nat.reduceSub, Array.replicate_succ, Array.replicate_zero, List.push_toArray, List.append_toArray, List.nil_append, List.cons_append]
  have hmx : Try.prog.follows .mixedOrders = true := by kernel_rfl
  gi_wp2_with fail
  gi_loopw [10] (fun i wr => ∃ k : Nat, k ≤ L.length ∧ i = .int .i64 k ∧ Hid (J (bcn (hit ex ey ez x y z) L k) wr ∧ Kz w0.heap.size 32 W wr)) (fun i _ => L.length - (intOf i).toNat)
  case atStart => exact ⟨0, Nat.zero_le _, rfl, H0.out, Kz.refl _⟩
  case round =>
    obtain ⟨k, hk, rfl, HI⟩ := hrel
    replace HBX := Lib.hid (HI.out.2.box (by decide) HBX.out)
    have HB1 := Lib.hid (HB0.out.trans HI.out.2.bel)
    clear hc
    by_cases hlt : k < L.length
    · have HS := Lib.hid (HX.out.below HB1.out)
      obtain ⟨b0, o0, rfl, e0, e1, e2, hsl⟩ := HS.out k hlt
      have hlb : w0.heap.size ≤ wr.heap.size := HB1.out.size
      have hc := HBX.out.cell
      have HSL := Lib.hid hsl
      clear hsl
      replace HWX := Lib.hid (HI.out.2.same gw _ _ _ (by decide) HWX.out)
      obtain ⟨v0, v1, v2, v3, v4, v5⟩ := cells6 HWX.out
      have HH := Lib.hid (show ∃ h, hit ex ey ez x y z (gdB L k) = h from ⟨_, rfl⟩)
      obtain ⟨h, hh⟩ := HH.out
      clear HH
      have HH := Lib.hid hh
      have HR := Lib.hid (show ∃ ra rb rc rd, ClR (gdB L k).xs (gdB L k).lo (gdB L k).hi ex ey ez x y z ⟨ra, rb, rc, rd, h⟩ 0 ∧ (h = true → ra = (rng ex ey ez x y z (gdB L k)).ln ∧ rb = (rng ex ey ez x y z (gdB L k)).ld ∧ rc = (rng ex ey ez x y z (gdB L k)).hn ∧ rd = (rng ex ey ez x y z (gdB L k)).hd) from by
        cases h
        · exact ⟨_, _, _, _, clr_no HWY.out HBD.out hlt hh, fun h => by cases h⟩
        · exact ⟨_, _, _, _, clr_hit HWY.out HBD.out hlt hh, fun _ => ⟨rfl, rfl, rfl, rfl⟩⟩)
      obtain ⟨ra, rb, rc, rd, hcl, hrr⟩ := HR.out
      clear HR hh
      have HRR := Lib.hid hrr
      have HC := Lib.hid (fun W (hl : SlS W (gdB L k).A (gdB L k).xs) => clipby_is (gdB L k).A (gdB L k).C (gdB L k).xs (gdB L k).lo (gdB L k).hi ex ey ez x y z (bok_len HBD.out hlt) ra rb rc rd h hcl W hl)
      clear hcl hrr
      generalize hgd : gdB L k = u at *
      have HGD := Lib.hid hgd
      clear hgd
      obtain ⟨uA, uC, ux, ul, uh⟩ := u
      dsimp only at e0 e1 e2 HC HSL
      have ho := below_new wr (.cells #[.slice uA ux.length uC, .int .i64 ul, .int .i64 uh] 46)
      have n0 : World.cell? (wr.alloc (.cells #[.slice uA ux.length uC, .int .i64 ul, .int .i64 uh] 46)) ⟨wr.heap.size, 0, none⟩ = some (.slice uA ux.length uC) := by simp [go_sem]
      have n1 : World.cell? (wr.alloc (.cells #[.slice uA ux.length uC, .int .i64 ul, .int .i64 uh] 46)) ⟨wr.heap.size, 1, none⟩ = some (.int .i64 ul) := by simp [go_sem]
      have n2 : World.cell? (wr.alloc (.cells #[.slice uA ux.length uC, .int .i64 ul, .int .i64 uh] 46)) ⟨wr.heap.size, 2, none⟩ = some (.int .i64 uh) := by simp [go_sem]
      have w0_ := keepc ho v0
      have w1_ := keepc ho v1
      have w2_ := keepc ho v2
      have w3_ := keepc ho v3
      have w4_ := keepc ho v4
      have w5_ := keepc ho v5
      gi_wp2_with fail
      refine ⟨trivial, (callsIn_wide.2 (HC.out _ (HSL.out.below ho))).mono ?_⟩
      rintro e w3 ⟨rfl, hb⟩
      replace hb := on_below ho hb
      clear ho n0 n1 n2 w0_ w1_ w2_ w3_ w4_ w5_ v0 v1 v2 v3 v4 v5 e0 e1 e2 HSL HC
      have hb2 := on_below hb (below_new w3 (.cells #[.int .i64 ra, .int .i64 rb, .int .i64 rc, .int .i64 rd] 122))
      have n0 : World.cell? (w3.alloc (.cells #[.int .i64 ra, .int .i64 rb, .int .i64 rc, .int .i64 rd] 122)) ⟨w3.heap.size, 0, none⟩ = some (.int .i64 ra) := by simp [go_sem]
      have n1 : World.cell? (w3.alloc (.cells #[.int .i64 ra, .int .i64 rb, .int .i64 rc, .int .i64 rd] 122)) ⟨w3.heap.size, 1, none⟩ = some (.int .i64 rb) := by simp [go_sem]
      have n2 : World.cell? (w3.alloc (.cells #[.int .i64 ra, .int .i64 rb, .int .i64 rc, .int .i64 rd] 122)) ⟨w3.heap.size, 2, none⟩ = some (.int .i64 rc) := by simp [go_sem]
      have n3 : World.cell? (w3.alloc (.cells #[.int .i64 ra, .int .i64 rb, .int .i64 rc, .int .i64 rd] 122)) ⟨w3.heap.size, 3, none⟩ = some (.int .i64 rd) := by simp [go_sem]
      replace hb := hb2
      clear hb2
      have HJV := Lib.hid (HJ.out _ _ _ none HI.out.1 (grown_of hb) (by rintro r e; cases e))
      have HKV := Lib.hid (HI.out.2.trans (Kz.of (T := 32) hb hlb))
      have HCNT := Lib.hid (bcn_mono (hit ex ey ez x y z) L (show k + 1 ≤ L.length from hlt))
      clear HI hb
      have w1_ : IntKind.i64.wrap ((k : Int) + 1) = (k : Int) + 1 := IntWalk.i64_in _ ⟨by omega, by omega⟩
      have w2_ : wrap64 ((k : Int) + 1) = (k : Int) + 1 := IntWalk.wrap64_in _ ⟨by omega, by omega⟩
      cases h
      · have HG := Lib.hid (show J (bcn (hit ex ey ez x y z) L (k + 1)) (w3.alloc (.cells #[.int .i64 ra, .int .i64 rb, .int .i64 rc, .int .i64 rd] 122)) ∧ Kz w0.heap.size 32 W (w3.alloc (.cells #[.int .i64 ra, .int .i64 rb, .int .i64 rc, .int .i64 rd] 122)) from ⟨by rw [bcn_no (by rw [HGD.out]; exact HH.out)]; exact HJV.out, HKV.out⟩)
        clear HJV HKV HY
        gi_wp2_with fail
        refine ⟨(fun f e => by cases e), ?_⟩
        gi_wp2_with fail
        go_roundw
        case rel => exact ⟨k + 1, hlt, by go_num, HG.out⟩
        case measure => simp [intOf]; omega
      · have hcn := bcn_hit (p := hit ex ey ez x y z) (L := L) (k := k) (by rw [HGD.out]; exact HH.out)
        have HCN := Lib.hid hcn
        obtain ⟨fn, tmps, assign, body, hy, hR⟩ := yc_of (HY.out (bcn (hit ex ey ez x y z) L k) #[.int .i64 k, .agg #[.int .i64 ra, .int .i64 rb, .int .i64 rc, .int .i64 rd]] _ (by have := HCNT.out; omega) HJV.out ⟨k, hlt, by rw [HGD.out]; exact HH.out, rfl, by rw [HGD.out]; obtain ⟨h1, h2, h3, h4⟩ := HRR.out rfl; rw [← h1, ← h2, ← h3, ← h4]⟩)
        have HR := Lib.hid hR
        clear hR HJV hcn HY HRR
        gi_wp2_with fail
        refine (round_room (m := n - 1) HR.out).mono ?_
        rintro e W3 ⟨b, rfl, hYB⟩
        clear hy HR n0 n1 n2 n3
        rcases hYB with ⟨rfl, h1, h2, h3⟩ | ⟨rfl, h1, h3⟩
        · have HG := Lib.hid (show J (bcn (hit ex ey ez x y z) L (k + 1)) W3 ∧ Kz w0.heap.size 32 W W3 from ⟨by rw [HCN.out]; exact h1, HKV.out.trans h2⟩)
          clear h1 h2 h3 HKV
          gi_wp2
          go_roundw
          case rel => exact ⟨k + 1, hlt, by go_num, HG.out⟩
          case measure => simp [intOf]; omega
        · have HG := Lib.hid (show bcn (hit ex ey ez x y z) L k + 1 ≤ bcn (hit ex ey ez x y z) L L.length ∧ Jx (bcn (hit ex ey ez x y z) L k + 1) W3 from ⟨by have := HCNT.out; have := HCN.out; omega, h1⟩)
          clear h1 h3 HKV
          gi_wp2
          refine bodyPost_ret (results_none rfl _ _ _) rfl ?_
          exact ⟨⟨_, rfl⟩, .inr ⟨_, HG.out⟩⟩
    · have hk2 : k = L.length := by omega
      have HF := Lib.hid (show J (bcn (hit ex ey ez x y z) L L.length) wr from hk2 ▸ HI.out.1)
      clear hk2
      gi_wp2
      go_end0
      exact ⟨⟨_, rfl⟩, .inl HF.out⟩
end Go.Proofs.Ytiffgcipdamngaa

namespace Go.Proofs.Ytiffgcipdamngaa
open Go.RowKit Go.Sort Go.Shelf
open Go.RowKit (Below)
set_option linter.unusedVariables false
set_option linter.unusedSimpArgs false

attribute [local go_sem] Oper.semAt_some
theorem allocs3 (W : World) (o0 o1 o2 : Obj) {V : World} (hV : ((W.alloc o0).alloc o1).alloc o2 = V) :
    Below W.heap.size W V ∧ V.heap.size = W.heap.size + 3 ∧ V.heap[W.heap.size]? = some o0 ∧ V.heap[W.heap.size + 1]? = some o1 ∧ V.heap[W.heap.size + 2]? = some o2 := by
  subst hV
  have nb : ∀ (U : World) (k : Nat) (o : Obj), U.heap.size = k → (U.alloc o).heap[k]? = some o := fun U k o h => by subst h; exact World.alloc_heap_new U o
  refine ⟨(((Below.refl _ W).alloc (Nat.le_refl _) _).alloc (by simp) _).alloc (by simp; omega) _, by simp, ?_, ?_, ?_⟩
  · exact blk_new (blk_new (nb _ _ _ rfl) _) _
  · exact blk_new (nb _ _ _ (by simp)) _
  · exact nb _ _ _ (by simp)
/-- line's own blocks: the target's number, the result. -/
structure Lj (g : Nat) (i : Int) (q : Q4) (w0 : World) (p : Prop) (W : World) : Prop where
  t : Boxed W (g + 1) 3 (.int .i64 i)
  r : W.heap[g + 2]? = some (.cells #[.int .i64 q.a, .int .i64 q.b, .int .i64 q.c, .int .i64 q.d] 97 (0, 0))
  bel : Below w0.heap.size w0 W
  hp : p
section
variable {g : Nat} {i : Int} {q q' : Q4} {w0 : World} {p p' : Prop} {W W' : World}
theorem Lj.on (h : Lj g i q w0 p W) (hb : Below W.heap.size W W') : Lj g i q w0 p W' := ⟨blk_on h.t hb, blk_on h.r hb, on_below h.bel hb, h.hp⟩
theorem Lj.row {row : Option Nat} (h : Lj g i q w0 p W) (hg : W.grownBy W' row) (hr : ∀ r, row = some r → w0.heap.size ≤ r ∧ ∃ o : Obj, W.heap[r]? = some o ∧ o.isCells = false) : Lj g i q w0 p W' :=
  ⟨box_row h.t hg (fun r e => (hr r e).2), blk_row h.r hg (fun r e => (hr r e).2), h.bel.grown hg h.bel.size (fun j e => (hr j e).1), h.hp⟩
theorem Lj.own {B : Nat} {p : Nat → Prop} (hB : w0.heap.size ≤ B) : OwnFrom B (fun k W => Lj g i q w0 (p k) W) :=
  fun k W W' row h hg hr => h.row hg (fun r e => ⟨Nat.le_trans hB (hr r e).1, (hr r e).2⟩)
theorem Lj.put (h : Lj g i q w0 p W) (hg : w0.heap.size ≤ g) (q' : Q4) : Lj g i q' w0 p ((((W.setCell ⟨g + 2, 0, none⟩ (.int .i64 q'.a)).setCell ⟨g + 2, 1, none⟩ (.int .i64 q'.b)).setCell ⟨g + 2, 2, none⟩ (.int .i64 q'.c)).setCell ⟨g + 2, 3, none⟩ (.int .i64 q'.d)) :=
  ⟨blk_far (blk_far (blk_far (blk_far h.t (by omega)) (by omega)) (by omega)) (by omega), set_cells (set_cells (set_cells (set_cells h.r 0 _) 1 _) 2 _) 3 _, (((h.bel.setCell (by show w0.heap.size ≤ g + 2; omega) _).setCell (by show w0.heap.size ≤ g + 2; omega) _).setCell (by show w0.heap.size ≤ g + 2; omega) _).setCell (by show w0.heap.size ≤ g + 2; omega) _, h.hp⟩
theorem Lj.st (h : Lj g i q w0 p W) (hq : p') : Lj g i q w0 p' W := ⟨h.t, h.r, h.bel, hq⟩
end
theorem cells4 {W : World} {g : Nat} {a b c d : Value} {t : TypeId} {fz : Nat × Nat} (h : W.heap[g]? = some (.cells #[a, b, c, d] t fz)) : W.cell? ⟨g, 0, none⟩ = some a ∧ W.cell? ⟨g, 1, none⟩ = some b ∧ W.cell? ⟨g, 2, none⟩ = some c ∧ W.cell? ⟨g, 3, none⟩ = some d := by
  refine ⟨?_, ?_, ?_, ?_⟩ <;> simp [World.cell?, h]
theorem froz4 {W : World} {g : Nat} {cs : Array Value} {t : TypeId} (h : W.heap[g]? = some (.cells cs t (0, 0))) (k : Nat) : W.frozen? ⟨g, k, none⟩ = false := by simp [World.frozen?, h]
/-- The line, where the i-th body is the first that blocks. -/
theorem lin_of {ex ey ez x y z : Int} {L : List Bv} {k : Nat} (hk : k < L.length) (h : hit ex ey ez x y z (gdB L k) = true) (h0 : bcn (hit ex ey ez x y z) L k = 0) (i : Int) : lin ex ey ez x y z L i = ⟨i, k, medN (rng ex ey ez x y z (gdB L k)), medD (rng ex ey ez x y z (gdB L k))⟩ := by
  have hf := frs_at hk h (fun j hj => bcn_zero h0 hj)
  rw [lin_hit (by rw [hf]; exact hk), hf]
theorem lin_no {ex ey ez x y z : Int} {L : List Bv} (h0 : bcn (hit ex ey ez x y z) L L.length = 0) (i : Int) : lin ex ey ez x y z L i = ⟨i, -1, 0, 1⟩ := lin_none (frs_none fun j hj => bcn_zero h0 hj) i
theorem rng_ok {ex ey ez x y z : Int} {L : List Bv} (hw : Wy ex ey ez x y z) (hb : Bds L) {k : Nat} (hk : k < L.length) : Rok 32000000 (rng ex ey ez x y z (gdB L k)) :=
  clp_ok (m := 32000000) (r := r0) ⟨by decide, by decide, by decide, by decide⟩ (cnd_bd (hb k hk) hw.e hw.p)
set_option maxRecDepth 100000 in
set_option maxHeartbeats 4000000 in
theorem line_is (ex ey ez x y z i : Int) (A : Option Addr) (C : Nat) (L : List Bv) (hlen : L.length ≤ 9223372036854775806) (hw : Wy ex ey ez x y z) (hbd : Bds L) (q : Q4) (hq : lin ex ey ez x y z L i = q) (w : World) (hl : BdS w A L) :
    Calls Try.prog 49 #[.agg #[.int .i64 ex, .int .i64 ey, .int .i64 ez, .int .i64 x, .int .i64 y, .int .i64 z], .int .i64 i, .slice A L.length C] w fun e_ w' => e_ = .returned (.agg #[.int .i64 q.a, .int .i64 q.b, .int .i64 q.c, .int .i64 q.d]) ∧ Below w.heap.size w w' := by
  have HL := Lib.hid hl
  have HW := Lib.hid hw
  have HBD := Lib.hid hbd
  have HQ := Lib.hid hq
  clear hl hw hbd hq
  refine (callsIn_wide (n := 8)).1 ?_
  refine callsIn_of_wp_marks Try.func49 rfl trivial ?_ rfl
  simp only [Try.ntmps49, List.size_toArray, List.length_cons, List.length_nil, Nat.reduceAdd, Nat.reduceSub, Array.replicate_succ, Array.replicate_zero, List.push_toArray, List.append_toArray, List.nil_append, List.cons_append]
  have hmx : Try.prog.follows .mixedOrders = true := by kernel_rfl
  gi_wp2_with fail
  obtain ⟨w1, hw1⟩ : ∃ V, ((w.alloc (.cells #[.int .i64 ex, .int .i64 ey, .int .i64 ez, .int .i64 x, .int .i64 y, .int .i64 z] 99)).alloc (.cells #[.int .i64 i] 3)).alloc (.cells #[.int .i64 0, .int .i64 0, .int .i64 0, .int .i64 0] 97) = V := ⟨_, rfl⟩
  obtain ⟨hb1, hs1, q0, q1, q2⟩ := allocs3 _ _ _ _ hw1
  have HI := Lib.hid (show Lj w.heap.size i ⟨0, 0, 0, 0⟩ w True w1 from ⟨q1, q2, hb1, trivial⟩)
  simp only [World.size_alloc, Nat.add_assoc, Nat.reduceAdd]
  rw [hw1]
  clear hw1 hb1 q0 q1 q2
  refine ⟨trivial, (callsIn_wide.2 (blockers_any ex ey ez x y z A L.length C w1)).mono ?_⟩
  rintro e w2 ⟨rfl, hw2⟩
  have hb : Below w1.heap.size w1 w2 := by rw [hw2]; exact ((Below.refl _ _).alloc (Nat.le_refl _) _).alloc (by simp) _
  have HBX := Lib.hid (show Boxed w2 (w1.heap.size + 1) 22 (.slice A L.length C) by rw [hw2]; have h := Boxed.new (w1.alloc (.cells #[.int .i64 ex, .int .i64 ey, .int .i64 ez, .int .i64 x, .int .i64 y, .int .i64 z] 99)) 22 (.slice A L.length C); rwa [World.size_alloc] at h)
  have HWX := Lib.hid (show w2.heap[w1.heap.size]? = some (.cells #[.int .i64 ex, .int .i64 ey, .int .i64 ez, .int .i64 x, .int .i64 y, .int .i64 z] 99 (0, 0)) by rw [hw2]; exact blk_new (World.alloc_heap_new _ _) _)
  replace HI := Lib.hid (HI.out.on hb)
  clear hw2 hb hs1
  generalize w1.heap.size = g3 at *
  clear w1
  have HSQ := Lib.hid (blockers_seq 7 (by omega) (g3 + 1) g3 ex ey ez x y z A C L hlen HW.out HBD.out w w2 HL.out HI.out.bel HBX.out HWX.out)
  clear HBX HWX
  have hsz : w.heap.size + 2 < w2.heap.size := block_lt (cells4 HI.out.r).1
  gi_wp2_with fail
  refine range_n (gf := 80) (lb := #[.pointer (some ⟨g3 + 1, 0, none⟩), .pointer (some ⟨g3, 0, none⟩)]) rfl blockers_enter HSQ.out (Below.refl _ _) (fun k args W e => by obtain ⟨i0, _, _, _, e⟩ := e; rw [e]; rfl) Kz.trans (fun W l o o' hl h1 h2 => Kz.put o' (by omega) h1 h2)
    (fun k W => Lj w.heap.size i ⟨0, 0, 0, 0⟩ w (Hid (k = 0)) W) (fun k W => Lj w.heap.size i q w (Hid True) W) (Lj.own (by omega)) (Lj.own (by omega))
    (HI.out.st (show Hid (0 = 0) from Lib.hid rfl)) ?round ?done ?stop
  case round =>
    rintro l k args W hl hk hI ⟨i0, hi0, hhit, hcn, rfl⟩
    have hk0 : k = 0 := hI.hp.out
    subst hk0
    have HN := Lib.hid hI
    have HV := Lib.hid ((lin_of hi0 hhit hcn i).symm.trans HQ.out)
    have ok := rng_ok HW.out HBD.out hi0
    have HM := Lib.hid (fun W => med_is (rng ex ey ez x y z (gdB L i0)).ln (rng ex ey ez x y z (gdB L i0)).ld (rng ex ey ez x y z (gdB L i0)).hn (rng ex ey ez x y z (gdB L i0)).hd _ _ ⟨by have := ok.l; omega, by have := ok.l; omega⟩ ⟨by have := ok.ld; omega, by have := ok.ld; omega⟩ ⟨by have := ok.h; omega, by have := ok.h; omega⟩ ⟨by have := ok.hd; omega, by have := ok.hd; omega⟩ rfl rfl W)
    unfold medN medD at HV
    clear hI HSQ HI hhit hcn ok HQ
    generalize (rng ex ey ez x y z (gdB L i0)).ln = ra at *
    generalize (rng ex ey ez x y z (gdB L i0)).ld = rb at *
    generalize (rng ex ey ez x y z (gdB L i0)).hn = rc at *
    generalize (rng ex ey ez x y z (gdB L i0)).hd = rd at *
    generalize mkN (ra + rc) (rb + rd) = mn at *
    generalize mkD (ra + rc) (rb + rd) = md at *
    have hsW : w.heap.size ≤ W.heap.size := HN.out.bel.size
    gi_wp2
    have h2 := below_new W (.cells #[.int .i64 ra, .int .i64 rb, .int .i64 rc, .int .i64 rd] 122)
    refine ⟨keeps_of h2, Kz.of h2 (by omega), ?_⟩
    rintro o Wb ho hc hsome hg hoth
    have q0 : (W.alloc (.cells #[.int .i64 ra, .int .i64 rb, .int .i64 rc, .int .i64 rd] 122)).heap[W.heap.size]? = some (.cells #[.int .i64 ra, .int .i64 rb, .int .i64 rc, .int .i64 rd] 122 (0, 0)) := World.alloc_heap_new W _
    have HQ0 := Lib.hid (show Wb.heap[W.heap.size]? = some (.cells #[.int .i64 ra, .int .i64 rb, .int .i64 rc, .int .i64 rd] 122 (0, 0)) by rw [hoth _ (fun e => by rw [← e] at ho; rw [q0] at ho; cases ho; cases hc)]; exact q0)
    have hrow : ∀ r, some l = some r → w.heap.size ≤ r ∧ ∃ o : Obj, (W.alloc (.cells #[.int .i64 ra, .int .i64 rb, .int .i64 rc, .int .i64 rd] 122)).heap[r]? = some o ∧ o.isCells = false := fun r e => by cases e; exact ⟨by omega, o, ho, hc⟩
    replace HN := Lib.hid ((HN.out.on h2).row hg hrow)
    clear ho hc hsome hg hoth hrow h2 q0
    have d0 := (cells4 HQ0.out).1
    have d1 := (cells4 HQ0.out).2.1
    have d2 := (cells4 HQ0.out).2.2.1
    have d3 := (cells4 HQ0.out).2.2.2
    have t0 := HN.out.t.cell
    generalize W.heap.size = gi at *
    gi_wp2_with fail
    have hne : gi ≠ w.heap.size + 2 := fun e => by rw [e] at HQ0; have h := HN.out.r; rw [HQ0.out] at h; injection h with h; injection h with _ h _; exact absurd h (by decide)
    refine region_round (S := fun V => V.cell? ⟨w.heap.size + 1, 0, none⟩ = some (.int .i64 i) ∧ V.cell? ⟨gi, 0, none⟩ = some (.int .i64 ra) ∧ V.cell? ⟨gi, 1, none⟩ = some (.int .i64 rb) ∧ V.cell? ⟨gi, 2, none⟩ = some (.int .i64 rc) ∧ V.cell? ⟨gi, 3, none⟩ = some (.int .i64 rd)) hmx (by kernel_rfl) (by rintro ⟨a, w, h⟩; exact h) ⟨t0, d0, d1, d2, d3⟩ fun HL_ => ?_
    refine wpAnyH_take (i := 0) (v := .int .i64 i) rfl (by kernel_rfl) (by kernel_rfl) (by kernel_rfl) (fun _ _ _ h => h) (Or.inl ⟨by kernel_rfl, ?_⟩) HL_ ?_
    · rintro Wl ⟨s0, s1, s2, s3, s4⟩
      go_simp
    simp only [Act.put, List.getElem_toArray, List.getElem_cons_succ, List.getElem_cons_zero, List.setIfInBounds_toArray, List.set_cons_zero, List.set_cons_succ]
    refine wpAnyH_take (i := 1) (v := .int .i64 i0) rfl (by kernel_rfl) (by kernel_rfl) (by kernel_rfl) (fun _ _ _ h => h) (Or.inl ⟨by kernel_rfl, ?_⟩) HL_ ?_
    · rintro Wl ⟨s0, s1, s2, s3, s4⟩
      go_simp
    simp only [Act.put, List.getElem_toArray, List.getElem_cons_succ, List.getElem_cons_zero, List.setIfInBounds_toArray, List.set_cons_zero, List.set_cons_succ]
    refine wpAnyH_take (i := 2) (v := .agg #[.int .i64 ra, .int .i64 rb, .int .i64 rc, .int .i64 rd]) rfl (by kernel_rfl) (by kernel_rfl) (by kernel_rfl) (fun _ _ _ h => h) (Or.inl ⟨by kernel_rfl, ?_⟩) HL_ ?_
    · rintro Wl ⟨s0, s1, s2, s3, s4⟩
      go_simp
    simp only [Act.put, List.getElem_toArray, List.getElem_cons_succ, List.getElem_cons_zero, List.setIfInBounds_toArray, List.set_cons_zero, List.set_cons_succ]
    refine wpAnyH_ready (rs := [3]) (by kernel_rfl) (by simp) ?_
    refine AllReadyH.cons (o := _) rfl (fun K hK => ?_) AllReadyH.nil
    go_simp
    with_reducible refine (HM.out _).mono ?_
    rintro e_ W3 ⟨rfl, hb⟩
    replace hb : Below Wb.heap.size Wb W3 := undrew_b hb
    replace HN := Lib.hid (HN.out.on hb)
    have HQ3 := Lib.hid (blk_on HQ0.out hb)
    have HF3 := Lib.hid (keeps_of (B := w2.heap.size) hb)
    refine hK.out _ _ ⟨HN.out.t.cell, (cells4 HQ3.out).1, (cells4 HQ3.out).2.1, (cells4 HQ3.out).2.2.1, (cells4 HQ3.out).2.2.2⟩ fun HL_ => ?_
    clear hK K hb d0 d1 d2 d3 t0
    refine wpAnyH_take (i := 4) (v := .agg #[.int .i64 i, .int .i64 i0, .int .i64 mn, .int .i64 md]) rfl (by kernel_rfl) (by kernel_rfl) (by kernel_rfl) (fun _ _ _ h => h) (Or.inl ⟨by kernel_rfl, ?_⟩) HL_ ?_
    · rintro Wl ⟨s0, s1, s2, s3, s4⟩
      go_simp
    simp only [Act.put, List.getElem_toArray, List.getElem_cons_succ, List.getElem_cons_zero, List.setIfInBounds_toArray, List.set_cons_zero, List.set_cons_succ]
    have r0 := (cells4 HN.out.r).1
    have r1 := (cells4 HN.out.r).2.1
    have r2 := (cells4 HN.out.r).2.2.1
    have r3 := (cells4 HN.out.r).2.2.2
    have f0 := froz4 HN.out.r 0
    have f1 := froz4 HN.out.r 1
    have f2 := froz4 HN.out.r 2
    have f3 := froz4 HN.out.r 3
    have HP := Lib.hid ((HN.out.st (p' := Hid True) (Lib.hid trivial)).put (Nat.le_refl _) ⟨i, i0, mn, md⟩)
    have HQ4 := Lib.hid (blk_far (i := 3) (u := .int .i64 md) (blk_far (i := 2) (u := .int .i64 mn) (blk_far (i := 1) (u := .int .i64 i0) (blk_far (i := 0) (u := .int .i64 i) HQ3.out hne) hne) hne) hne)
    have HF4 := Lib.hid ((((HF3.out.trans (keeps_set ⟨w.heap.size + 2, 0, none⟩ (.int .i64 i))).trans (keeps_set ⟨w.heap.size + 2, 1, none⟩ (.int .i64 i0))).trans (keeps_set ⟨w.heap.size + 2, 2, none⟩ (.int .i64 mn))).trans (keeps_set ⟨w.heap.size + 2, 3, none⟩ (.int .i64 md)))
    refine wpAnyH_ready (rs := [5]) (by kernel_rfl) (by simp) ?_
    refine AllReadyH.cons (o := _) rfl (fun K hK => ?_) AllReadyH.nil
    go_simp
    refine hK.out _ _ ⟨HP.out.t.cell, (cells4 HQ4.out).1, (cells4 HQ4.out).2.1, (cells4 HQ4.out).2.2.1, (cells4 HQ4.out).2.2.2⟩ fun HL_ => ?_
    clear hK K
    refine wpAnyH_done (by kernel_rfl) ?_ _
    have e := HV.out
    subst e
    clear HL_ r0 r1 r2 r3 f0 f1 f2 f3
    gi_wp2
    exact ⟨HF4.out, HP.out⟩
  case done =>
    rintro D V hD hI hK
    have HV := Lib.hid ((lin_no hI.hp.out i).symm.trans HQ.out)
    have r0 := (cells4 hI.r).1
    have r1 := (cells4 hI.r).2.1
    have r2 := (cells4 hI.r).2.2.1
    have r3 := (cells4 hI.r).2.2.2
    have f0 := froz4 hI.r 0
    have f1 := froz4 hI.r 1
    have f2 := froz4 hI.r 2
    have f3 := froz4 hI.r 3
    have t0 := hI.t.cell
    have HI := Lib.hid hI
    have HK := Lib.hid hK
    clear hI hK HSQ
    have hp := HI.out.put (Nat.le_refl _) ⟨i, -1, 0, 1⟩
    have k8 : ((((V.setCell ⟨w.heap.size + 2, 0, none⟩ (.int .i64 i)).setCell ⟨w.heap.size + 2, 1, none⟩ (.int .i64 (-1))).setCell ⟨w.heap.size + 2, 2, none⟩ (.int .i64 0)).setCell ⟨w.heap.size + 2, 3, none⟩ (.int .i64 1)).heap[D]? = some (.deferred (some [])) := (KeepsOthers.setCell _ _ _).same _ _ ((KeepsOthers.setCell _ _ _).same _ _ ((KeepsOthers.setCell _ _ _).same _ _ ((KeepsOthers.setCell _ _ _).same _ _ HK.out rfl) rfl) rfl) rfl
    have hq := hp.row (grownBy_putObj' _ D (.deferred none)) (fun r e => by cases e; exact ⟨by omega, _, k8, rfl⟩)
    have g0 := (cells4 hq.r).1
    have g1 := (cells4 hq.r).2.1
    have g2 := (cells4 hq.r).2.2.1
    have g3_ := (cells4 hq.r).2.2.2
    have HF := Lib.hid hq.bel
    have e := HV.out
    subst e
    clear hp hq HI HV
    gi_wp2
    refine ⟨by simp, .inl ⟨_, _, rfl, run_takeDeferred k8, ?_⟩⟩
    exact ⟨.agg #[.int .i64 i, .int .i64 (-1), .int .i64 0, .int .i64 1], by simp [results, Try.results49, go_sem, g0, g1, g2, g3_], rfl, HF.out⟩
  case stop =>
    rintro D k V hD hk hI hK
    have hq := hI.row (grownBy_putObj' _ D (.deferred none)) (fun r e => by cases e; exact ⟨by omega, _, hK, rfl⟩)
    have g0 := (cells4 hq.r).1
    have g1 := (cells4 hq.r).2.1
    have g2 := (cells4 hq.r).2.2.1
    have g3_ := (cells4 hq.r).2.2.2
    have HF := Lib.hid hq.bel
    clear hI hq
    gi_wp2
    refine ⟨by simp, .inl ⟨_, _, rfl, run_takeDeferred hK, ?_⟩⟩
    exact ⟨.agg #[.int .i64 q.a, .int .i64 q.b, .int .i64 q.c, .int .i64 q.d], by simp [results, Try.results49, go_sem, g0, g1, g2, g3_], rfl, HF.out⟩
end Go.Proofs.Ytiffgcipdamngaa

namespace Go.Proofs.Ytiffgcipdamngaa
open Go.RowKit Go.Sort
open Go.RowKit (Below)
set_option linter.unusedVariables false
set_option linter.unusedSimpArgs false
attribute [local go_sem] Oper.semAt_some

set_option maxRecDepth 100000 in
theorem mk_four (n : Nat) (hn : n ≤ 1000) (w : World) : ∃ cs : Array Value, cs.size = n * 4 ∧ (Instr.makeSlice 73 (.int .i64 n) (.int .i64 n)).run Try.prog w = .ok (.slice (some ⟨w.heap.size, 0, none⟩) n n) (w.alloc (.cells cs 97)) := by
  obtain ⟨i, hi, hsz, hz, hb⟩ : ∃ i, Try.prog.info? 97 = some i ∧ i.size = 4 ∧ i.zero = some (.agg #[.int .i64 0, .int .i64 0, .int .i64 0, .int .i64 0]) ∧ i.bytes = 32 := ⟨_, rfl, rfl, rfl, rfl⟩
  have hr := run_make (P := Try.prog) w 73 97 i _ Try.underlying73 hi hz .i64 .i64 n n (by omega) (Int.le_refl _) (by rw [hb]; omega) (by omega)
  rw [hsz] at hr
  simp only [Int.toNat_natCast] at hr
  exact ⟨_, size_madeCells _ _, hr⟩
/-- A row of quadruples, of which the first k are those that f tells. -/
def Ro (g n k : Nat) (f : Nat → Q4) (W : World) : Prop := ∃ cs : Array Value, W.heap[g]? = some (.cells cs 97 (0, 0)) ∧ cs.size = n * 4 ∧
  ∀ j, j < k → cs[j * 4]? = some (.int .i64 (f j).a) ∧ cs[j * 4 + 1]? = some (.int .i64 (f j).b) ∧ cs[j * 4 + 2]? = some (.int .i64 (f j).c) ∧ cs[j * 4 + 3]? = some (.int .i64 (f j).d)
section
variable {g n k : Nat} {f : Nat → Q4} {W W' : World}
theorem Ro.on (h : Ro g n k f W) (hb : Below W.heap.size W W') : Ro g n k f W' := by obtain ⟨cs, h1, h2⟩ := h; exact ⟨cs, blk_on h1 hb, h2⟩
theorem Ro.lt (h : Ro g n k f W) : g < W.heap.size := by obtain ⟨cs, h1, h2⟩ := h; exact (Array.getElem?_eq_some_iff.1 h1).1
theorem Ro.fz (h : Ro g n k f W) (i : Nat) : W.frozen? ⟨g, i, none⟩ = false := by obtain ⟨cs, h1, h2⟩ := h; simp [World.frozen?, h1]
theorem Ro.cell (h : Ro g n k f W) {i : Nat} (hi : i < n * 4) : ∃ v, W.cell? ⟨g, i, none⟩ = some v := by obtain ⟨cs, h1, h2, _⟩ := h; exact ⟨cs[i], by simp [World.cell?, h1]⟩
theorem Ro.put (h : Ro g n k f W) (hk : k < n) : Ro g n (k + 1) f ((((W.setCell ⟨g, k * 4, none⟩ (.int .i64 (f k).a)).setCell ⟨g, k * 4 + 1, none⟩ (.int .i64 (f k).b)).setCell ⟨g, k * 4 + 2, none⟩ (.int .i64 (f k).c)).setCell ⟨g, k * 4 + 3, none⟩ (.int .i64 (f k).d)) := by
  obtain ⟨cs, h1, h2, h3⟩ := h
  refine ⟨_, set_cells (set_cells (set_cells (set_cells h1 _ _) _ _) _ _) _ _, by simp [h2], fun j hj => ?_⟩
  simp only [Array.getElem?_setIfInBounds, Array.size_setIfInBounds, h2]
  by_cases e : j = k
  · subst e
    simp (disch := omega) only [if_pos, if_neg, and_self]
    exact ⟨rfl, rfl, rfl, rfl⟩
  · obtain ⟨e1, e2, e3, e4⟩ := h3 j (by omega)
    simp (disch := omega) only [if_neg]
    exact ⟨e1, e2, e3, e4⟩
theorem Ro.s4 {N : List Q4} (h : Ro g n k f W) (hl : N.length = k) (he : ∀ j, j < k → gd4 N j = f j) : S4 W (some ⟨g, 0, none⟩) N := by
  obtain ⟨cs, h1, h2, h3⟩ := h
  intro j hj
  obtain ⟨e1, e2, e3, e4⟩ := h3 j (by omega)
  rw [he j (by omega)]
  refine ⟨g, 0, rfl, ?_, ?_, ?_, ?_⟩ <;> simp [World.cell?, h1, e1, e2, e3, e4]
end
theorem wy_of {ex ey ez : Int} {T : List Q4} (hs : Sut ex ey ez T) (ht : Tok T) {k : Nat} (hk : k < T.length) : Wy ex ey ez (gd4 T k).a (gd4 T k).b (gd4 T k).c := by
  have h := ht.2 k hk
  unfold tgb at h
  refine ⟨hs.1, vv_iff.1 ?_, fun e => hs.2 k hk ⟨e.1.symm, e.2.1.symm, e.2.2.symm⟩⟩
  cases hv : vv (gd4 T k).a (gd4 T k).b (gd4 T k).c
  · rw [hv] at h; simp at h
  · rfl

set_option maxRecDepth 100000 in
set_option maxHeartbeats 4000000 in
theorem lines_1 (ex ey ez : Int) (A : Option Addr) (C : Nat) (T : List Q4) (B : Option Addr) (D : Nat) (L : List Bv) (h4 : T.length ≤ 9223372036854775807) (h5 : L.length ≤ 9223372036854775807) (hE : Wrg ex ey ez T L 0) (w : World) (hl : S4 w A T) (hm : BdS w B L) :
    Calls Try.prog 29 #[.agg #[.int .i64 ex, .int .i64 ey, .int .i64 ez], .slice A T.length C, .slice B L.length D] w fun e_ w' => ∃ g, e_ = .returned (.tuple #[.slice (some ⟨g, 0, none⟩) T.length T.length, .int .i64 0]) ∧ S4 w' (some ⟨g, 0, none⟩) (lns ex ey ez T L) ∧ Below w.heap.size w w' := by
  obtain ⟨h1, h2, ht, hsu, hbd⟩ : T.length ≤ 60 ∧ L.length ≤ 60 ∧ Tok T ∧ Sut ex ey ez T ∧ Bds L := by
    rcases hE with ⟨_, h⟩ | ⟨_, _, _, h⟩ | ⟨h1, h2, h3, h4, h5, _⟩
    · cases h
    · cases h
    · exact ⟨h1, h2, h3, h4, h5⟩
  have HC := Lib.hid (fun W (hl : S4 W A T) (hm : BdS W B L) => eof_is ex ey ez A C T B D L h4 h5 0 hE (fun _ _ k hk => bok_len hbd hk) W hl hm)
  clear hE
  have z : ((0 : Int) != 0) = false := rfl
  have HT := Lib.hid ht
  have HS := Lib.hid hsu
  have HD := Lib.hid hbd
  clear ht hsu hbd
  have HL := Lib.hid hl
  clear hl
  have HM := Lib.hid hm
  clear hm
  have p0 : World.cell? (w.alloc (.cells #[.int .i64 ex, .int .i64 ey, .int .i64 ez] 27)) ⟨w.heap.size, 0, none⟩ = some (.int .i64 ex) := by simp [go_sem]
  have p1 : World.cell? (w.alloc (.cells #[.int .i64 ex, .int .i64 ey, .int .i64 ez] 27)) ⟨w.heap.size, 1, none⟩ = some (.int .i64 ey) := by simp [go_sem]
  have p2 : World.cell? (w.alloc (.cells #[.int .i64 ex, .int .i64 ey, .int .i64 ez] 27)) ⟨w.heap.size, 2, none⟩ = some (.int .i64 ez) := by simp [go_sem]
  have lp : w.heap.size < (w.alloc (.cells #[.int .i64 ex, .int .i64 ey, .int .i64 ez] 27)).heap.size := by simp <;> omega
  have HB := Lib.hid (show Below w.heap.size w (w.alloc (.cells #[.int .i64 ex, .int .i64 ey, .int .i64 ez] 27)) from ((Below.refl _ _).alloc (by simp <;> omega) _))
  go_enter Try.func29, Try.ntmps29
  go_upto_region 1 with fail
  generalize w.alloc (.cells #[.int .i64 ex, .int .i64 ey, .int .i64 ez] 27) = w1 at *
  replace HL := Lib.hid (HL.out.below HB.out)
  replace HM := Lib.hid (HM.out.below HB.out)
  go_wp2_with fail
  with_reducible refine (HC.out _ HL.out HM.out).mono ?_
  rintro e_ w2 ⟨rfl, hb⟩
  replace HB := Lib.hid (on_below HB.out hb)
  replace HL := Lib.hid (HL.out.below hb)
  replace HM := Lib.hid (HM.out.below hb)
  replace p0 := keepc hb p0
  replace p1 := keepc hb p1
  replace p2 := keepc hb p2
  replace lp := Nat.lt_of_lt_of_le lp hb.size
  clear hb
  obtain ⟨zs, hzs, hmk⟩ := mk_four T.length (by omega) w2
  go_wp2_with fail
  have hgb : w.heap.size < w2.heap.size := lp
  have HR0 := Lib.hid (show Ro w2.heap.size T.length 0 (fun j => lin ex ey ez (gd4 T j).a (gd4 T j).b (gd4 T j).c L j) (w2.alloc (.cells zs 97)) from ⟨zs, World.alloc_heap_new _ _, hzs, fun j hj => absurd hj (Nat.not_lt_zero j)⟩)
  have hb3 := below_new w2 (.cells zs 97)
  clear hmk hzs z
  generalize w2.alloc (.cells zs 97) = w3 at *
  go_loopw [24] (fun i wr => ∃ k : Nat, k ≤ T.length ∧ i = .int .i64 k ∧ Hid (Ro w2.heap.size T.length k (fun j => lin ex ey ez (gd4 T j).a (gd4 T j).b (gd4 T j).c L j) wr ∧ Below w2.heap.size w2 wr)) (fun i _ => T.length - (intOf i).toNat)
  case atStart => exact ⟨0, Nat.zero_le _, rfl, HR0.out, hb3⟩
  case round =>
    obtain ⟨k, hk, rfl, HK⟩ := hrel
    clear HR0 hb3
    have w1_ : IntKind.i64.wrap ((k : Int) + 1) = (k : Int) + 1 := IntWalk.i64_in _ ⟨by omega, by omega⟩
    have w2_ : wrap64 ((k : Int) + 1) = (k : Int) + 1 := IntWalk.wrap64_in _ ⟨by omega, by omega⟩
    replace p0 := keepc HK.out.2 p0
    replace p1 := keepc HK.out.2 p1
    replace p2 := keepc HK.out.2 p2
    by_cases hlt : k < T.length
    · obtain ⟨b0, o0, rfl, e0, e1, e2, e3⟩ := HL.out.below HK.out.2 k hlt
      have HWY := Lib.hid (wy_of HS.out HT.out hlt)
      have HLI := Lib.hid (fun W (h : BdS W B L) => line_is ex ey ez (gd4 T k).a (gd4 T k).b (gd4 T k).c k B D L (by omega) HWY.out HD.out _ rfl W h)
      have HF := Lib.hid (show (fun j : Nat => lin ex ey ez (gd4 T j).a (gd4 T j).b (gd4 T j).c L j) k = lin ex ey ez (gd4 T k).a (gd4 T k).b (gd4 T k).c L k from rfl)
      generalize lin ex ey ez (gd4 T k).a (gd4 T k).b (gd4 T k).c L k = q at *
      generalize (fun j : Nat => lin ex ey ez (gd4 T j).a (gd4 T j).b (gd4 T j).c L j) = ff at *
      generalize gd4 T k = u at *
      obtain ⟨ua, ub, uc, ud⟩ := u
      dsimp only at e0 e1 e2 e3 HLI
      have ho := below_new wr (.cells #[.int .i64 ua, .int .i64 ub, .int .i64 uc, .int .i64 ud] 41)
      have n0 : World.cell? (wr.alloc (.cells #[.int .i64 ua, .int .i64 ub, .int .i64 uc, .int .i64 ud] 41)) ⟨wr.heap.size, 0, none⟩ = some (.int .i64 ua) := by simp [go_sem]
      have n1 : World.cell? (wr.alloc (.cells #[.int .i64 ua, .int .i64 ub, .int .i64 uc, .int .i64 ud] 41)) ⟨wr.heap.size, 1, none⟩ = some (.int .i64 ub) := by simp [go_sem]
      have n2 : World.cell? (wr.alloc (.cells #[.int .i64 ua, .int .i64 ub, .int .i64 uc, .int .i64 ud] 41)) ⟨wr.heap.size, 2, none⟩ = some (.int .i64 uc) := by simp [go_sem]
      have n3 : World.cell? (wr.alloc (.cells #[.int .i64 ua, .int .i64 ub, .int .i64 uc, .int .i64 ud] 41)) ⟨wr.heap.size, 3, none⟩ = some (.int .i64 ud) := by simp [go_sem]
      have m0 := keepc ho p0
      have m1 := keepc ho p1
      have m2 := keepc ho p2
      go_wp2_with fail
      with_reducible refine (HLI.out _ ((HM.out.below HK.out.2).below ho)).mono ?_
      rintro e_ w5 ⟨rfl, hb⟩
      have hb5 := on_below ho hb
      have hro := HK.out.1.on hb5
      have hbl := HK.out.2.trans (hb5.mono HK.out.2.size)
      have HP := hro.put hlt
      rw [HF.out] at HP
      have HP := Lib.hid HP
      obtain ⟨y0, x0⟩ := hro.cell (i := k * 4) (by omega)
      obtain ⟨y1, x1⟩ := hro.cell (i := k * 4 + 1) (by omega)
      obtain ⟨y2, x2⟩ := hro.cell (i := k * 4 + 2) (by omega)
      obtain ⟨y3, x3⟩ := hro.cell (i := k * 4 + 3) (by omega)
      have f0 := hro.fz (k * 4)
      have f1 := hro.fz (k * 4 + 1)
      have f2 := hro.fz (k * 4 + 2)
      have f3 := hro.fz (k * 4 + 3)
      have HBL := Lib.hid hbl
      clear hro hbl hb5 hb ho n0 n1 n2 n3 m0 m1 m2 HLI HWY HF HK e0 e1 e2 e3 p0 p1 p2
      have hi1 : (k : Int) < T.length := Int.ofNat_lt.2 hlt
      go_wp2_with fail
      go_roundw
      case rel => exact ⟨k + 1, hlt, int_of (by omega), HP.out, (((HBL.out.setCell (Nat.le_refl _) _).setCell (Nat.le_refl _) _).setCell (Nat.le_refl _) _).setCell (Nat.le_refl _) _⟩
      case measure => simp [intOf]; omega
    · have hke : k = T.length := by omega
      subst hke
      have HS4 := Lib.hid (HK.out.1.s4 (lns_len ex ey ez T L) (fun j hj => lns_at hj))
      have HBL := Lib.hid (HB.out.trans (HK.out.2.mono HB.out.size))
      clear HK HT HS HD p0 p1 p2
      go_wp2_with fail
      go_ret2
      exact ⟨_, rfl, HS4.out, HBL.out⟩
end Go.Proofs.Ytiffgcipdamngaa
