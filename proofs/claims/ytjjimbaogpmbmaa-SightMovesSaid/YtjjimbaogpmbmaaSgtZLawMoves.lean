/-
  SightMoves.
-/
import Derived.Test.YtjjimbaogpmbmaaSgtZE
import Derived.Test.YtjjimbaogpmbmaaShpY
import Derived.Test.YtjjimbaogpmbmaaShpZ
import Derived.Test.YtjjimbaogpmbmaaSgtZD
import Derived.Test.YtjjimbaogpmbmaaSgtZV
import Derived.Test.YtjjimbaogpmbmaaRows
import Derived.ProofKit
import Derived.OpenShut
import Derived.Deep.DeepHandedRow
import Derived.Deep.DeepWitnessRowRef
import Derived.MakeChecks
import Derived.Deep.DeepCutAuto
namespace Go.Proofs.Ytjjimbaogpmbmaa.LawMoves
open Go.RowKit Go.Sort
open Go.RowKit (Below)
set_option linter.unusedVariables false
set_option linter.unusedSimpArgs false
attribute [local go_sem] Oper.semAt_some

theorem app_row4 {u : World} {B : Nat} {e : TypeId} {v : Value} {L M : List Q4} {x : Q4} (h : u.ownsRow B e 4 v (L.length + 1) (flt q4c L ++ q4c x)) (hM : L ++ [x] = M) : u.ownsRow B e 4 v M.length (flt q4c M) := by
  subst hM
  rw [List.length_append, ← flt_snoc]
  exact h
theorem app_rowB {u : World} {B : Nat} {e : TypeId} {v : Value} {L M : List Bv} {x : Bv} (h : u.ownsRow B e 3 v (L.length + 1) (flt bvc L ++ bvc x)) (hM : L ++ [x] = M) : u.ownsRow B e 3 v M.length (flt bvc M) := by
  subst hM
  rw [List.length_append, ← flt_snoc]
  exact h
theorem app_bel {V wr u : World} {o : Obj} {e : TypeId} {size n : Nat} {v : Value} {xs : List Value} (hb : Below V.heap.size V wr) (own : wr.ownsRow V.heap.size e size v n xs) (gr : (wr.alloc o).grownBy u v.ownBlock) : Below V.heap.size V u :=
  app_below (on_below hb (below_new wr o)) (Nat.le_trans hb.size (below_new wr o).size) (own.alloc o) (Nat.le_refl _) gr
theorem idx_facts {l k n : Nat} (hl : l ≤ 102) (hn : l - 1 - k = n) (hk : k < l) : n < l ∧ (n : Int) < l ∧ wrap64 ((l : Int) - 1) = (l : Int) - 1 ∧ IntKind.i64.wrap ((l : Int) - 1) = (l : Int) - 1 ∧ (l : Int) - 1 - (k : Int) = (n : Int) ∧ wrap64 (n : Int) = (n : Int) ∧ IntKind.i64.wrap (n : Int) = (n : Int) ∧ IntKind.i64.wrap ((k : Int) + 1) = (k : Int) + 1 ∧ wrap64 ((k : Int) + 1) = (k : Int) + 1 :=
  ⟨by omega, by omega, wrp2 ⟨by omega, by omega⟩, wrp1 ⟨by omega, by omega⟩, by omega, wrp2 ⟨by omega, by omega⟩, wrp1 ⟨by omega, by omega⟩, wrp1 ⟨by omega, by omega⟩, wrp2 ⟨by omega, by omega⟩⟩
theorem own_take0 {α : Type} (w : World) (B : Nat) (e : TypeId) (size : Nat) (R : List α) (f : α → List Value) : w.ownsRow B e size (.slice none 0 0) (R.take 0).length (flt f (R.take 0)) := by
  rw [List.take_zero]; exact World.ownsRow_nil _ _ _ _
theorem src_new (w : World) (cs : Array Value) (t : TypeId) : Src (w.alloc (.cells cs t)) (some ⟨w.heap.size, 0, none⟩) cs.toList := fun j u hu => ⟨_, rfl, World.news_of_block (World.alloc_heap_new w _) j u hu⟩
/-- A target that is moved. -/
def mq (u v w : Int) (q : Q4) : Q4 := ⟨q.a + u, q.b + v, q.c + w, q.d⟩
section
variable {u v w : Int} {T : List Q4} {k : Nat}
theorem mq_len : (T.map (mq u v w)).length = T.length := List.length_map _
theorem mq_at (h : k < T.length) : gd4 (T.map (mq u v w)) k = mq u v w (gd4 T k) := by
  rw [gd4_at (by rw [mq_len]; exact h), gd4_at h, List.getElem_map]
theorem mq_step (h : k < T.length) : (T.map (mq u v w)).take k ++ [mq u v w (gd4 T k)] = (T.map (mq u v w)).take (k + 1) := by
  rw [List.take_succ_eq_append_getElem (by rw [mq_len]; exact h), ← gd4_at, mq_at h]
theorem mq_take (T : List Q4) : (T.map (mq u v w)).take T.length = T.map (mq u v w) := List.take_of_length_le (by rw [mq_len]; exact Nat.le_refl _)
end
theorem kfacts {k l : Nat} (hl : l ≤ 102) (hk : k < l) : IntKind.i64.wrap ((k : Int) + 1) = (k : Int) + 1 ∧ wrap64 ((k : Int) + 1) = (k : Int) + 1 ∧ (k : Int) < l :=
  ⟨wrp1 ⟨by omega, by omega⟩, wrp2 ⟨by omega, by omega⟩, by omega⟩
theorem tgb_v {q : Q4} (h : tgb q = false) : vv q.a q.b q.c = true := by
  unfold tgb at h
  cases e : vv q.a q.b q.c
  · rw [e] at h; cases h
  · rfl
theorem tgb_mq {u v w : Int} {q : Q4} (h : tgb q = false) (hv : vv (q.a + u) (q.b + v) (q.c + w) = true) : tgb (mq u v w q) = false := by
  unfold tgb at *
  show (!(vv (q.a + u) (q.b + v) (q.c + w)) || decide (q.d < 1) || decide (100 < q.d)) = false
  rw [hv]
  rw [tgb_v (by unfold tgb; exact h)] at h
  exact h
/-- Moved bodies, in memory of their own. -/
def Mvd (W : World) (v : Value) (b M : List Bv) (k : Nat) (x y z : Int) : Prop :=
  M.length = k ∧ (M = [] → v = .slice none 0 0) ∧ ∀ j, j < k → ∃ g C, gdB M j = mvb (gdB b j) (some ⟨g, 0, none⟩) C x y z ∧ SlS W (some ⟨g, 0, none⟩) (mv (gdB b j).xs x y) ∧ Bok (mv (gdB b j).xs x y) ((gdB b j).lo + z) ((gdB b j).hi + z)
theorem mvd_0 (W : World) (b : List Bv) (x y z : Int) : Mvd W (.slice none 0 0) b [] 0 x y z := ⟨rfl, fun _ => rfl, fun j hj => absurd hj (Nat.not_lt_zero j)⟩
/-- A slice of points does not lie in the row of bodies: their first cells differ. -/
theorem row_far {W : World} {B n : Nat} {e : TypeId} {v : Value} {M : List Bv} (own : W.ownsRow B e 3 v n (flt bvc M)) (hv : M = [] → v = .slice none 0 0) {g : Nat} {xs : List (Int × Int)} (h : SlS W (some ⟨g, 0, none⟩) xs) (hx : 0 < xs.length) : some g ≠ v.ownBlock := by
  intro e1
  cases M with
  | nil => rw [hv rfl] at e1; cases e1
  | cons x r =>
    obtain ⟨A, C, hv2, _, _, hc⟩ := own_form own
    obtain ⟨g2, rfl, _, c0⟩ := hc 0 (.slice x.A x.xs.length x.C) rfl
    rw [hv2] at e1
    have e2 : g = g2 := by simpa [Value.ownBlock] using e1
    subst e2
    obtain ⟨b1, o1, e3, c1, _⟩ := h 0 hx
    obtain ⟨rfl, rfl⟩ : g = b1 ∧ 0 = o1 := by simpa using e3
    rw [show 0 + 0 * 2 = 0 by rfl] at c1
    rw [c1] at c0
    cases c0
theorem mvd_below {W W' : World} {v : Value} {b M : List Bv} {k : Nat} {x y z : Int} (h : Mvd W v b M k x y z) (hb : Below W.heap.size W W') : Mvd W' v b M k x y z :=
  ⟨h.1, h.2.1, fun j hj => by obtain ⟨g, C, h1, h2, h3⟩ := h.2.2 j hj; exact ⟨g, C, h1, h2.below hb, h3⟩⟩
/-- One more body behind an append. -/
theorem mvd_step {wr u : World} {o : Obj} {B : Nat} {e : TypeId} {v v' : Value} {b M : List Bv} {k : Nat} {x y z : Int} {g C : Nat} (h : Mvd wr v b M k x y z) (own : wr.ownsRow B e 3 v M.length (flt bvc M)) (gr : (wr.alloc o).grownBy u v.ownBlock)
    (hs : SlS wr (some ⟨g, 0, none⟩) (mv (gdB b k).xs x y)) (hb : Bok (mv (gdB b k).xs x y) ((gdB b k).lo + z) ((gdB b k).hi + z)) (hv : v' ≠ .slice none 0 0 → True) : Mvd u v' b (M ++ [mvb (gdB b k) (some ⟨g, 0, none⟩) C x y z]) (k + 1) x y z := by
  have keep : ∀ {g : Nat} {xs : List (Int × Int)}, 0 < xs.length → SlS wr (some ⟨g, 0, none⟩) xs → SlS u (some ⟨g, 0, none⟩) xs := by
    intro g xs hx hs
    have hf := row_far own h.2.1 hs hx
    refine (hs.below (below_new wr o)).same fun b o e hlt => ?_
    obtain ⟨rfl, rfl⟩ : g = b ∧ 0 = o := by simpa using e
    exact gr.block g hlt hf
  refine ⟨by rw [List.length_append, h.1]; rfl, fun e => by simp at e, fun j hj => ?_⟩
  rcases Nat.lt_succ_iff_lt_or_eq.1 hj with e | rfl
  · obtain ⟨g1, C1, h1, h2, h3⟩ := h.2.2 j e
    exact ⟨g1, C1, by rw [gdB_app_l (by rw [h.1]; exact e)]; exact h1, keep (by have := h3.n3; omega) h2, h3⟩
  · refine ⟨g, C, ?_, keep (by have := hb.n3; omega) hs, hb⟩
    rw [gdB_app_r (by rw [h.1]; omega), h.1, Nat.sub_self]; rfl
theorem moved_wrg {ex ey ez u v w : Int} {T : List Q4} {L M : List Bv} {W : World} (h : Wrg ex ey ez T L 0) (he : vv (ex + u) (ey + v) (ez + w) = true) (hv : ∀ k, k < T.length → vv ((gd4 T k).a + u) ((gd4 T k).b + v) ((gd4 T k).c + w) = true) (hl : M.length = L.length)
    (hm : ∀ j, j < L.length → ∃ g C, gdB M j = mvb (gdB L j) (some ⟨g, 0, none⟩) C u v w ∧ SlS W (some ⟨g, 0, none⟩) (mv (gdB L j).xs u v) ∧ Bok (mv (gdB L j).xs u v) ((gdB L j).lo + w) ((gdB L j).hi + w)) :
    Wrg (ex + u) (ey + v) (ez + w) (T.map (mq u v w)) M 0 ∧ lns (ex + u) (ey + v) (ez + w) (T.map (mq u v w)) M = lns ex ey ez T L := by
  obtain ⟨h1, h2, h3⟩ := wrg_zero h
  have hlen : T.length ≤ 60 ∧ L.length ≤ 60 := by
    rcases h with ⟨_, h⟩ | ⟨_, _, _, h⟩ | ⟨a, b, _⟩
    · cases h
    · cases h
    · exact ⟨a, b⟩
  refine ⟨Or.inr (Or.inr ⟨by rw [mq_len]; exact hlen.1, by rw [hl]; exact hlen.2, ⟨by rw [mq_len]; exact h1.1, fun k hk => ?_⟩, ⟨vv_iff.1 he, fun k hk => ?_⟩, fun j hj => ?_, rfl⟩), ?_⟩
  · rw [mq_len] at hk
    rw [mq_at hk]; exact tgb_mq (h1.2 k hk) (hv k hk)
  · rw [mq_len] at hk
    rw [mq_at hk]
    rintro ⟨a, b, c⟩
    have ea : (gd4 T k).a + u = ex + u := a
    have eb : (gd4 T k).b + v = ey + v := b
    have ec : (gd4 T k).c + w = ez + w := c
    exact h2.2 k hk ⟨by omega, by omega, by omega⟩
  · rw [hl] at hj
    obtain ⟨g, C, e, _, hb⟩ := hm j hj
    rw [e]; exact hb
  · refine list4_eq (by rw [lns_len, lns_len, mq_len]) fun j hj => ?_
    rw [lns_len, mq_len] at hj
    rw [lns_at (by rw [mq_len]; exact hj), lns_at hj, mq_at hj]
    exact lin_mv hl (fun i hi => by obtain ⟨g, C, e, _⟩ := hm i hi; exact ⟨_, _, e⟩) _ _ _ _ _ _ _
set_option maxRecDepth 100000 in
set_option maxHeartbeats 4000000 in
theorem mov_0 (ex ey ez du dv dw : Int) (tA : Option Addr) (tC : Nat) (t : List Q4) (bA : Option Addr) (bC : Nat) (b : List Bv) (h4 : t.length ≤ 9223372036854775807) (h5 : b.length ≤ 9223372036854775807) (h6 : ∀ k, k < b.length → (gdB b k).xs.length ≤ 9223372036854775807) (hf : ¬ Few t.length b) (w : World) (ht : S4 w tA t) (hm : BdS w bA b) :
    Calls Try.prog 12 #[.agg #[.int .i64 ex, .int .i64 ey, .int .i64 ez], .agg #[.int .i64 du, .int .i64 dv, .int .i64 dw], .slice tA t.length tC, .slice bA b.length bC] w fun e_ w' => e_ = .returned (.bool true) ∧ Below w.heap.size w w' := by
  have HF := Lib.hid (fun W (h : BdS W bA b) => few9_is tA tC t bA bC b h4 h5 h6 false (by simp [hf]) W h)
  have HT := Lib.hid ht
  clear ht
  have HM := Lib.hid hm
  clear hm
  go_enter Try.func12, Try.ntmps12
  go_wp2_with fail
  obtain ⟨w1, hw1⟩ : ∃ V, ((w.alloc (.cells #[.int .i64 ex, .int .i64 ey, .int .i64 ez] 27)).alloc (.cells #[.int .i64 du, .int .i64 dv, .int .i64 dw] 27)) = V := ⟨_, rfl⟩
  obtain ⟨hB_, kp, kq⟩ := boxes2 _ _ _ hw1
  rw [hw1]
  clear hw1
  have HB := Lib.hid hB_
  clear hB_
  have p0 := (cells3 kp).1
  have p1 := (cells3 kp).2.1
  have p2 := (cells3 kp).2.2
  have lp := block_lt p0
  have q0 := (cells3 kq).1
  have q1 := (cells3 kq).2.1
  have q2 := (cells3 kq).2.2
  have lq := block_lt q0
  replace HT := Lib.hid (HT.out.below HB.out)
  replace HM := Lib.hid (HM.out.below HB.out)
  with_reducible refine (head9_any _).mono ?_
  rintro e_ w2 ⟨rfl, hb⟩
  replace HB := Lib.hid (on_below HB.out hb)
  replace HT := Lib.hid (HT.out.below hb)
  replace HM := Lib.hid (HM.out.below hb)
  replace p0 := keepc hb p0
  replace p1 := keepc hb p1
  replace p2 := keepc hb p2
  replace q0 := keepc hb q0
  replace q1 := keepc hb q1
  replace q2 := keepc hb q2
  replace kp := blk_on kp hb
  replace kq := blk_on kq hb
  replace lp := Nat.lt_of_lt_of_le lp hb.size
  replace lq := Nat.lt_of_lt_of_le lq hb.size
  clear hb
  go_wp2_with fail
  with_reducible refine (HF.out _ HM.out).mono ?_
  rintro e_ w3 ⟨rfl, hb⟩
  replace HB := Lib.hid (on_below HB.out hb)
  replace HT := Lib.hid (HT.out.below hb)
  replace HM := Lib.hid (HM.out.below hb)
  replace p0 := keepc hb p0
  replace p1 := keepc hb p1
  replace p2 := keepc hb p2
  replace q0 := keepc hb q0
  replace q1 := keepc hb q1
  replace q2 := keepc hb q2
  replace kp := blk_on kp hb
  replace kq := blk_on kq hb
  replace lp := Nat.lt_of_lt_of_le lp hb.size
  replace lq := Nat.lt_of_lt_of_le lq hb.size
  clear hb
  go_wp2_with fail
  go_ret
  exact ⟨rfl, HB.out⟩
set_option maxRecDepth 100000 in
set_option maxHeartbeats 4000000 in
theorem mov_1 (ex ey ez du dv dw : Int) (tA : Option Addr) (tC : Nat) (t : List Q4) (bA : Option Addr) (bC : Nat) (b : List Bv) (h4 : t.length ≤ 9223372036854775807) (h5 : b.length ≤ 9223372036854775807) (h6 : ∀ k, k < b.length → (gdB b k).xs.length ≤ 9223372036854775807) (hf : Few t.length b) (E : Int) (hE : Wrg ex ey ez t b E) (h0 : E ≠ 0) (w : World) (ht : S4 w tA t) (hm : BdS w bA b) :
    Calls Try.prog 12 #[.agg #[.int .i64 ex, .int .i64 ey, .int .i64 ez], .agg #[.int .i64 du, .int .i64 dv, .int .i64 dw], .slice tA t.length tC, .slice bA b.length bC] w fun e_ w' => e_ = .returned (.bool true) ∧ Below w.heap.size w w' := by
  have HF := Lib.hid (fun W (h : BdS W bA b) => few9_is tA tC t bA bC b h4 h5 h6 true (by simp [hf]) W h)
  have C1 := Lib.hid (fun W (x : S4 W tA t) (c : BdS W bA b) => lines_0 ex ey ez tA tC t bA bC b h4 h5 E hE h0 (fun _ _ => few_bsm hf) W x c)
  have z0 : (E != 0) = true := by simp [h0]
  clear hf hE h0
  have HT := Lib.hid ht
  clear ht
  have HM := Lib.hid hm
  clear hm
  go_enter Try.func12, Try.ntmps12
  go_wp2_with fail
  obtain ⟨w1, hw1⟩ : ∃ V, ((w.alloc (.cells #[.int .i64 ex, .int .i64 ey, .int .i64 ez] 27)).alloc (.cells #[.int .i64 du, .int .i64 dv, .int .i64 dw] 27)) = V := ⟨_, rfl⟩
  obtain ⟨hB_, kp, kq⟩ := boxes2 _ _ _ hw1
  rw [hw1]
  clear hw1
  have HB := Lib.hid hB_
  clear hB_
  have p0 := (cells3 kp).1
  have p1 := (cells3 kp).2.1
  have p2 := (cells3 kp).2.2
  have lp := block_lt p0
  have q0 := (cells3 kq).1
  have q1 := (cells3 kq).2.1
  have q2 := (cells3 kq).2.2
  have lq := block_lt q0
  replace HT := Lib.hid (HT.out.below HB.out)
  replace HM := Lib.hid (HM.out.below HB.out)
  with_reducible refine (head9_any _).mono ?_
  rintro e_ w2 ⟨rfl, hb⟩
  replace HB := Lib.hid (on_below HB.out hb)
  replace HT := Lib.hid (HT.out.below hb)
  replace HM := Lib.hid (HM.out.below hb)
  replace p0 := keepc hb p0
  replace p1 := keepc hb p1
  replace p2 := keepc hb p2
  replace q0 := keepc hb q0
  replace q1 := keepc hb q1
  replace q2 := keepc hb q2
  replace kp := blk_on kp hb
  replace kq := blk_on kq hb
  replace lp := Nat.lt_of_lt_of_le lp hb.size
  replace lq := Nat.lt_of_lt_of_le lq hb.size
  clear hb
  go_wp2_with fail
  with_reducible refine (HF.out _ HM.out).mono ?_
  rintro e_ w3 ⟨rfl, hb⟩
  replace HB := Lib.hid (on_below HB.out hb)
  replace HT := Lib.hid (HT.out.below hb)
  replace HM := Lib.hid (HM.out.below hb)
  replace p0 := keepc hb p0
  replace p1 := keepc hb p1
  replace p2 := keepc hb p2
  replace q0 := keepc hb q0
  replace q1 := keepc hb q1
  replace q2 := keepc hb q2
  replace kp := blk_on kp hb
  replace kq := blk_on kq hb
  replace lp := Nat.lt_of_lt_of_le lp hb.size
  replace lq := Nat.lt_of_lt_of_le lq hb.size
  clear hb
  go_wp2_with fail
  with_reducible refine (C1.out _ HT.out HM.out).mono ?_
  rintro e_ w4 ⟨rfl, hb⟩
  replace HB := Lib.hid (on_below HB.out hb)
  replace HT := Lib.hid (HT.out.below hb)
  replace HM := Lib.hid (HM.out.below hb)
  replace p0 := keepc hb p0
  replace p1 := keepc hb p1
  replace p2 := keepc hb p2
  replace q0 := keepc hb q0
  replace q1 := keepc hb q1
  replace q2 := keepc hb q2
  replace kp := blk_on kp hb
  replace kq := blk_on kq hb
  replace lp := Nat.lt_of_lt_of_le lp hb.size
  replace lq := Nat.lt_of_lt_of_le lq hb.size
  clear hb
  go_wp2_with fail
  go_ret
  exact ⟨rfl, HB.out⟩
set_option maxRecDepth 100000 in
set_option maxHeartbeats 4000000 in
theorem mov_2 (ex ey ez du dv dw : Int) (tA : Option Addr) (tC : Nat) (t : List Q4) (bA : Option Addr) (bC : Nat) (b : List Bv) (h4 : t.length ≤ 9223372036854775807) (h5 : b.length ≤ 9223372036854775807) (h6 : ∀ k, k < b.length → (gdB b k).xs.length ≤ 9223372036854775807) (hf : Few t.length b) (hE : Wrg ex ey ez t b 0) (F ux uy uz : Int) (hF : F ≠ 0) (hA : sE (vv ex ey ez) (vv du dv dw) (vv (ex + du) (ey + dv) (ez + dw)) = F) (hx : kp F (ex + du) = ux) (hy : kp F (ey + dv) = uy) (hz : kp F (ez + dw) = uz) (w : World) (ht : S4 w tA t) (hm : BdS w bA b) :
    Calls Try.prog 12 #[.agg #[.int .i64 ex, .int .i64 ey, .int .i64 ez], .agg #[.int .i64 du, .int .i64 dv, .int .i64 dw], .slice tA t.length tC, .slice bA b.length bC] w fun e_ w' => e_ = .returned (.bool true) ∧ Below w.heap.size w w' := by
  have HF := Lib.hid (fun W (h : BdS W bA b) => few9_is tA tC t bA bC b h4 h5 h6 true (by simp [hf]) W h)
  have C1 := Lib.hid (fun W (x : S4 W tA t) (c : BdS W bA b) => lines_1 ex ey ez tA tC t bA bC b h4 h5 hE W x c)
  have CA := Lib.hid (fun W => add_is ex ey ez du dv dw ux uy uz F hA hx hy hz W)
  have z0 : (F != 0) = true := by simp [hF]
  clear hf hE hF hA hx hy hz
  have HT := Lib.hid ht
  clear ht
  have HM := Lib.hid hm
  clear hm
  go_enter Try.func12, Try.ntmps12
  go_wp2_with fail
  obtain ⟨w1, hw1⟩ : ∃ V, ((w.alloc (.cells #[.int .i64 ex, .int .i64 ey, .int .i64 ez] 27)).alloc (.cells #[.int .i64 du, .int .i64 dv, .int .i64 dw] 27)) = V := ⟨_, rfl⟩
  obtain ⟨hB_, kp, kq⟩ := boxes2 _ _ _ hw1
  rw [hw1]
  clear hw1
  have HB := Lib.hid hB_
  clear hB_
  have p0 := (cells3 kp).1
  have p1 := (cells3 kp).2.1
  have p2 := (cells3 kp).2.2
  have lp := block_lt p0
  have q0 := (cells3 kq).1
  have q1 := (cells3 kq).2.1
  have q2 := (cells3 kq).2.2
  have lq := block_lt q0
  replace HT := Lib.hid (HT.out.below HB.out)
  replace HM := Lib.hid (HM.out.below HB.out)
  with_reducible refine (head9_any _).mono ?_
  rintro e_ w2 ⟨rfl, hb⟩
  replace HB := Lib.hid (on_below HB.out hb)
  replace HT := Lib.hid (HT.out.below hb)
  replace HM := Lib.hid (HM.out.below hb)
  replace p0 := keepc hb p0
  replace p1 := keepc hb p1
  replace p2 := keepc hb p2
  replace q0 := keepc hb q0
  replace q1 := keepc hb q1
  replace q2 := keepc hb q2
  replace kp := blk_on kp hb
  replace kq := blk_on kq hb
  replace lp := Nat.lt_of_lt_of_le lp hb.size
  replace lq := Nat.lt_of_lt_of_le lq hb.size
  clear hb
  go_wp2_with fail
  with_reducible refine (HF.out _ HM.out).mono ?_
  rintro e_ w3 ⟨rfl, hb⟩
  replace HB := Lib.hid (on_below HB.out hb)
  replace HT := Lib.hid (HT.out.below hb)
  replace HM := Lib.hid (HM.out.below hb)
  replace p0 := keepc hb p0
  replace p1 := keepc hb p1
  replace p2 := keepc hb p2
  replace q0 := keepc hb q0
  replace q1 := keepc hb q1
  replace q2 := keepc hb q2
  replace kp := blk_on kp hb
  replace kq := blk_on kq hb
  replace lp := Nat.lt_of_lt_of_le lp hb.size
  replace lq := Nat.lt_of_lt_of_le lq hb.size
  clear hb
  go_wp2_with fail
  with_reducible refine (C1.out _ HT.out HM.out).mono ?_
  rintro e_ w4 ⟨g0, rfl, hs0, hb⟩
  replace HB := Lib.hid (on_below HB.out hb)
  replace HT := Lib.hid (HT.out.below hb)
  replace HM := Lib.hid (HM.out.below hb)
  replace p0 := keepc hb p0
  replace p1 := keepc hb p1
  replace p2 := keepc hb p2
  replace q0 := keepc hb q0
  replace q1 := keepc hb q1
  replace q2 := keepc hb q2
  replace kp := blk_on kp hb
  replace kq := blk_on kq hb
  replace lp := Nat.lt_of_lt_of_le lp hb.size
  replace lq := Nat.lt_of_lt_of_le lq hb.size
  clear hb
  have HL := Lib.hid hs0
  clear hs0
  go_wp2_with fail
  with_reducible refine (CA.out _).mono ?_
  rintro e_ w5 ⟨rfl, hb⟩
  replace HB := Lib.hid (on_below HB.out hb)
  replace HT := Lib.hid (HT.out.below hb)
  replace HM := Lib.hid (HM.out.below hb)
  replace HL := Lib.hid (HL.out.below hb)
  replace p0 := keepc hb p0
  replace p1 := keepc hb p1
  replace p2 := keepc hb p2
  replace q0 := keepc hb q0
  replace q1 := keepc hb q1
  replace q2 := keepc hb q2
  replace kp := blk_on kp hb
  replace kq := blk_on kq hb
  replace lp := Nat.lt_of_lt_of_le lp hb.size
  replace lq := Nat.lt_of_lt_of_le lq hb.size
  clear hb
  go_wp2_with fail
  have a0 : World.cell? (w5.alloc (.cells #[.int .i64 ux, .int .i64 uy, .int .i64 uz] 27)) ⟨w5.heap.size, 0, none⟩ = some (.int .i64 ux) := by simp [go_sem]
  have a1 : World.cell? (w5.alloc (.cells #[.int .i64 ux, .int .i64 uy, .int .i64 uz] 27)) ⟨w5.heap.size, 1, none⟩ = some (.int .i64 uy) := by simp [go_sem]
  have a2 : World.cell? (w5.alloc (.cells #[.int .i64 ux, .int .i64 uy, .int .i64 uz] 27)) ⟨w5.heap.size, 2, none⟩ = some (.int .i64 uz) := by simp [go_sem]
  have la : w5.heap.size < (w5.alloc (.cells #[.int .i64 ux, .int .i64 uy, .int .i64 uz] 27)).heap.size := by simp
  have hb : Below w5.heap.size w5 (w5.alloc (.cells #[.int .i64 ux, .int .i64 uy, .int .i64 uz] 27)) := below_new _ _
  generalize w5.alloc (.cells #[.int .i64 ux, .int .i64 uy, .int .i64 uz] 27) = w6 at *
  replace HB := Lib.hid (on_below HB.out hb)
  replace HT := Lib.hid (HT.out.below hb)
  replace HM := Lib.hid (HM.out.below hb)
  replace HL := Lib.hid (HL.out.below hb)
  replace p0 := keepc hb p0
  replace p1 := keepc hb p1
  replace p2 := keepc hb p2
  replace q0 := keepc hb q0
  replace q1 := keepc hb q1
  replace q2 := keepc hb q2
  replace kp := blk_on kp hb
  replace kq := blk_on kq hb
  replace lp := Nat.lt_of_lt_of_le lp hb.size
  replace lq := Nat.lt_of_lt_of_le lq hb.size
  clear hb
  generalize w5.heap.size = ga at *
  go_ret
  exact ⟨rfl, HB.out⟩
set_option maxRecDepth 100000 in
set_option maxHeartbeats 4000000 in
theorem mov_3 (ex ey ez du dv dw : Int) (tA : Option Addr) (tC : Nat) (t : List Q4) (bA : Option Addr) (bC : Nat) (b : List Bv) (h4 : t.length ≤ 9223372036854775807) (h5 : b.length ≤ 9223372036854775807) (h6 : ∀ k, k < b.length → (gdB b k).xs.length ≤ 9223372036854775807) (hf : Few t.length b) (hE : Wrg ex ey ez t b 0) (hv : vv du dv dw = true) (hA : sE (vv ex ey ez) (vv du dv dw) (vv (ex + du) (ey + dv) (ez + dw)) = 0) (w : World) (ht : S4 w tA t) (hm : BdS w bA b) :
    Calls Try.prog 12 #[.agg #[.int .i64 ex, .int .i64 ey, .int .i64 ez], .agg #[.int .i64 du, .int .i64 dv, .int .i64 dw], .slice tA t.length tC, .slice bA b.length bC] w fun e_ w' => e_ = .returned (.bool true) ∧ Below w.heap.size w w' := by
  have HF := Lib.hid (fun W (h : BdS W bA b) => few9_is tA tC t bA bC b h4 h5 h6 true (by simp [hf]) W h)
  have C1 := Lib.hid (fun W (x : S4 W tA t) (c : BdS W bA b) => lines_1 ex ey ez tA tC t bA bC b h4 h5 hE W x c)
  have HK : Hid (∀ k, k < t.length → vv (gd4 t k).a (gd4 t k).b (gd4 t k).c = true) := fun k hk => tgb_v ((wrg_zero hE).1.2 k hk)
  have HY := Lib.hid hv
  have CA := Lib.hid (fun W => add_is ex ey ez du dv dw (ex + du) (ey + dv) (ez + dw) 0 hA rfl rfl rfl W)
  have lt0 := hf.1
  have lb0 := hf.2.1
  have HBD := Lib.hid ((wrg_zero hE).2.2)
  have HBS := Lib.hid (few_bsm hf)
  have HE := Lib.hid hE
  have HE0 := Lib.hid (sE_ok.1 hA).2.2
  obtain ⟨i0, hi0, hz0, hz1, hz2⟩ := info_of (show (Try.prog.info? 74).map (fun i => (i.zero, i.size, i.bytes)) = some (some (.agg #[.int .i64 0, .int .i64 0, .int .i64 0, .int .i64 0]), 4, 32) by kernel_rfl)
  obtain ⟨i1, hi1, hy0, hy1, hy2⟩ := info_of (show (Try.prog.info? 42).map (fun i => (i.zero, i.size, i.bytes)) = some (some (.agg #[.slice none 0 0, .int .i64 0, .int .i64 0]), 3, 40) by kernel_rfl)
  clear hf hE hA hv h4 h5 h6
  have HT := Lib.hid ht
  clear ht
  have HM := Lib.hid hm
  clear hm
  go_enter Try.func12, Try.ntmps12
  go_wp2_with fail
  obtain ⟨w1, hw1⟩ : ∃ V, ((w.alloc (.cells #[.int .i64 ex, .int .i64 ey, .int .i64 ez] 27)).alloc (.cells #[.int .i64 du, .int .i64 dv, .int .i64 dw] 27)) = V := ⟨_, rfl⟩
  obtain ⟨hB_, kp, kq⟩ := boxes2 _ _ _ hw1
  rw [hw1]
  clear hw1
  have HB := Lib.hid hB_
  clear hB_
  have p0 := (cells3 kp).1
  have p1 := (cells3 kp).2.1
  have p2 := (cells3 kp).2.2
  have lp := block_lt p0
  have q0 := (cells3 kq).1
  have q1 := (cells3 kq).2.1
  have q2 := (cells3 kq).2.2
  have lq := block_lt q0
  replace HT := Lib.hid (HT.out.below HB.out)
  replace HM := Lib.hid (HM.out.below HB.out)
  with_reducible refine (head9_any _).mono ?_
  rintro e_ w2 ⟨rfl, hb⟩
  replace HB := Lib.hid (on_below HB.out hb)
  replace HT := Lib.hid (HT.out.below hb)
  replace HM := Lib.hid (HM.out.below hb)
  replace p0 := keepc hb p0
  replace p1 := keepc hb p1
  replace p2 := keepc hb p2
  replace q0 := keepc hb q0
  replace q1 := keepc hb q1
  replace q2 := keepc hb q2
  replace kp := blk_on kp hb
  replace kq := blk_on kq hb
  replace lp := Nat.lt_of_lt_of_le lp hb.size
  replace lq := Nat.lt_of_lt_of_le lq hb.size
  clear hb
  go_wp2_with fail
  with_reducible refine (HF.out _ HM.out).mono ?_
  rintro e_ w3 ⟨rfl, hb⟩
  replace HB := Lib.hid (on_below HB.out hb)
  replace HT := Lib.hid (HT.out.below hb)
  replace HM := Lib.hid (HM.out.below hb)
  replace p0 := keepc hb p0
  replace p1 := keepc hb p1
  replace p2 := keepc hb p2
  replace q0 := keepc hb q0
  replace q1 := keepc hb q1
  replace q2 := keepc hb q2
  replace kp := blk_on kp hb
  replace kq := blk_on kq hb
  replace lp := Nat.lt_of_lt_of_le lp hb.size
  replace lq := Nat.lt_of_lt_of_le lq hb.size
  clear hb
  go_wp2_with fail
  with_reducible refine (C1.out _ HT.out HM.out).mono ?_
  rintro e_ w4 ⟨g0, rfl, hs0, hb⟩
  replace HB := Lib.hid (on_below HB.out hb)
  replace HT := Lib.hid (HT.out.below hb)
  replace HM := Lib.hid (HM.out.below hb)
  replace p0 := keepc hb p0
  replace p1 := keepc hb p1
  replace p2 := keepc hb p2
  replace q0 := keepc hb q0
  replace q1 := keepc hb q1
  replace q2 := keepc hb q2
  replace kp := blk_on kp hb
  replace kq := blk_on kq hb
  replace lp := Nat.lt_of_lt_of_le lp hb.size
  replace lq := Nat.lt_of_lt_of_le lq hb.size
  clear hb
  have HL := Lib.hid hs0
  clear hs0
  go_wp2_with fail
  with_reducible refine (CA.out _).mono ?_
  rintro e_ w5 ⟨rfl, hb⟩
  replace HB := Lib.hid (on_below HB.out hb)
  replace HT := Lib.hid (HT.out.below hb)
  replace HM := Lib.hid (HM.out.below hb)
  replace HL := Lib.hid (HL.out.below hb)
  replace p0 := keepc hb p0
  replace p1 := keepc hb p1
  replace p2 := keepc hb p2
  replace q0 := keepc hb q0
  replace q1 := keepc hb q1
  replace q2 := keepc hb q2
  replace kp := blk_on kp hb
  replace kq := blk_on kq hb
  replace lp := Nat.lt_of_lt_of_le lp hb.size
  replace lq := Nat.lt_of_lt_of_le lq hb.size
  clear hb
  go_wp2_with fail
  have a0 : World.cell? (w5.alloc (.cells #[.int .i64 ((ex + du)), .int .i64 ((ey + dv)), .int .i64 ((ez + dw))] 27)) ⟨w5.heap.size, 0, none⟩ = some (.int .i64 ((ex + du))) := by simp [go_sem]
  have a1 : World.cell? (w5.alloc (.cells #[.int .i64 ((ex + du)), .int .i64 ((ey + dv)), .int .i64 ((ez + dw))] 27)) ⟨w5.heap.size, 1, none⟩ = some (.int .i64 ((ey + dv))) := by simp [go_sem]
  have a2 : World.cell? (w5.alloc (.cells #[.int .i64 ((ex + du)), .int .i64 ((ey + dv)), .int .i64 ((ez + dw))] 27)) ⟨w5.heap.size, 2, none⟩ = some (.int .i64 ((ez + dw))) := by simp [go_sem]
  have la : w5.heap.size < (w5.alloc (.cells #[.int .i64 ((ex + du)), .int .i64 ((ey + dv)), .int .i64 ((ez + dw))] 27)).heap.size := by simp
  have hb : Below w5.heap.size w5 (w5.alloc (.cells #[.int .i64 ((ex + du)), .int .i64 ((ey + dv)), .int .i64 ((ez + dw))] 27)) := below_new _ _
  generalize w5.alloc (.cells #[.int .i64 ((ex + du)), .int .i64 ((ey + dv)), .int .i64 ((ez + dw))] 27) = w6 at *
  replace HB := Lib.hid (on_below HB.out hb)
  replace HT := Lib.hid (HT.out.below hb)
  replace HM := Lib.hid (HM.out.below hb)
  replace HL := Lib.hid (HL.out.below hb)
  replace p0 := keepc hb p0
  replace p1 := keepc hb p1
  replace p2 := keepc hb p2
  replace q0 := keepc hb q0
  replace q1 := keepc hb q1
  replace q2 := keepc hb q2
  replace kp := blk_on kp hb
  replace kq := blk_on kq hb
  replace lp := Nat.lt_of_lt_of_le lp hb.size
  replace lq := Nat.lt_of_lt_of_le lq hb.size
  clear hb
  generalize w5.heap.size = ga at *
  go_wp2_with fail
  go_loopw [14, 53] (fun v i wr => ∃ k : Nat, k ≤ t.length ∧ i = .int .i64 k ∧ Hid (wr.ownsRow w6.heap.size 74 4 v ((t.map (mq du dv dw)).take k).length (flt q4c ((t.map (mq du dv dw)).take k))) ∧ Hid (∀ j, j < k → vv ((gd4 t j).a + du) ((gd4 t j).b + dv) ((gd4 t j).c + dw) = true) ∧ Below w6.heap.size w6 wr) (fun _ i _ => t.length - (intOf i).toNat)
  case atStart => exact ⟨0, Nat.zero_le _, rfl, own_take0 _ _ _ _ _ _, (fun j hj => absurd hj (Nat.not_lt_zero j)), Below.refl _ _⟩
  case round =>
    obtain ⟨k, hk, rfl, HO, HV, hW⟩ := hrel
    by_cases hlt : k < t.length
    · have hln : ((t.map (mq du dv dw)).take k).length ≤ 200 := by rw [List.length_take, mq_len]; omega
      have hm1 : ((t.map (mq du dv dw)).take k).length + 1 ≤ maxLen := by unfold maxLen; omega
      have hm2 : (((t.map (mq du dv dw)).take k).length + 1) * 32 ≤ 140737488355328 := by omega
      obtain ⟨w1_, w2_, e5⟩ := kfacts (show t.length ≤ 102 by omega) hlt
      obtain ⟨b0, o0, rfl, e0, e1, e2, e3⟩ := HT.out.below hW k hlt
      have HS_ := Lib.hid (mq_step (u := du) (v := dv) (w := dw) (T := t) hlt)
      have HVK := Lib.hid (HK.out k hlt)
      obtain ⟨r, hr⟩ : ∃ r, vv ((gd4 t k).a + du) ((gd4 t k).b + dv) ((gd4 t k).c + dw) = r := ⟨_, rfl⟩
      have HR := Lib.hid hr
      clear hr
      have HV2 := Lib.hid (fun (h : vv ((gd4 t k).a + du) ((gd4 t k).b + dv) ((gd4 t k).c + dw) = true) => (show ∀ j, j < k + 1 → vv ((gd4 t j).a + du) ((gd4 t j).b + dv) ((gd4 t j).c + dw) = true from fun j hj => by
        rcases Nat.lt_succ_iff_lt_or_eq.1 hj with e | rfl
        · exact HV.out j e
        · exact h))
      have xq0 := keepc hW q0
      have xq1 := keepc hW q1
      have xq2 := keepc hW q2
      generalize gd4 t k = q at *
      obtain ⟨qa, qb, qc, qd⟩ := q
      dsimp only at e0 e1 e2 e3 HVK HR HV2
      unfold mq at HS_
      dsimp only at HS_
      have HW := Lib.hid hW
      clear hW
      have hn := below_new wr (.cells #[.int .i64 qa, .int .i64 qb, .int .i64 qc, .int .i64 qd] 74)
      have n0 : World.cell? (wr.alloc (.cells #[.int .i64 qa, .int .i64 qb, .int .i64 qc, .int .i64 qd] 74)) ⟨wr.heap.size, 0, none⟩ = some (.int .i64 qa) := by simp [go_sem]
      have n1 : World.cell? (wr.alloc (.cells #[.int .i64 qa, .int .i64 qb, .int .i64 qc, .int .i64 qd] 74)) ⟨wr.heap.size, 1, none⟩ = some (.int .i64 qb) := by simp [go_sem]
      have n2 : World.cell? (wr.alloc (.cells #[.int .i64 qa, .int .i64 qb, .int .i64 qc, .int .i64 qd] 74)) ⟨wr.heap.size, 2, none⟩ = some (.int .i64 qc) := by simp [go_sem]
      have n3 : World.cell? (wr.alloc (.cells #[.int .i64 qa, .int .i64 qb, .int .i64 qc, .int .i64 qd] 74)) ⟨wr.heap.size, 3, none⟩ = some (.int .i64 qd) := by simp [go_sem]
      replace xq0 := keepc hn xq0
      replace xq1 := keepc hn xq1
      replace xq2 := keepc hn xq2
      have HOW := Lib.hid (own_below HO.out hn)
      replace HW := Lib.hid (on_below HW.out hn)
      have ln0 := block_lt n0
      have lq0 := block_lt xq0
      clear hn HO
      go_wp2_with fail
      generalize wr.alloc (.cells #[.int .i64 qa, .int .i64 qb, .int .i64 qc, .int .i64 qd] 74) = y0 at *
      cases r
      · with_reducible refine (add_is qa qb qc du dv dw 0 0 0 3 (by rw [HVK.out, HY.out, HR.out]; decide) rfl rfl rfl _).mono ?_
        rintro e_ y1 ⟨rfl, hb⟩
        have HZ := Lib.hid (on_below HB.out (on_below HW.out hb))
        go_wp2_with fail
        go_ret
        exact ⟨rfl, on_below HZ.out (below_new _ _)⟩
      · with_reducible refine (add_is qa qb qc du dv dw (qa + du) (qb + dv) (qc + dw) 0 (by rw [HVK.out, HY.out, HR.out]; decide) rfl rfl rfl _).mono ?_
        rintro e_ y1 ⟨rfl, hb⟩
        have HV3 := Lib.hid (HV2.out HR.out)
        clear HV2 HVK HR
        generalize qa + du = ra at *
        generalize qb + dv = rb at *
        generalize qc + dw = rc at *
        replace n0 := keepc hb n0
        replace n1 := keepc hb n1
        replace n2 := keepc hb n2
        replace n3 := keepc hb n3
        replace HOW := Lib.hid (own_below HOW.out hb)
        replace HW := Lib.hid (on_below HW.out hb)
        replace ln0 := block_lt n0
        clear hb
        go_upto_region 15 with fail
        have hn := below_new y1 (.cells #[.int .i64 ra, .int .i64 rb, .int .i64 rc] 27)
        have s0 : World.cell? (y1.alloc (.cells #[.int .i64 ra, .int .i64 rb, .int .i64 rc] 27)) ⟨y1.heap.size, 0, none⟩ = some (.int .i64 ra) := by simp [go_sem]
        have s1 : World.cell? (y1.alloc (.cells #[.int .i64 ra, .int .i64 rb, .int .i64 rc] 27)) ⟨y1.heap.size, 1, none⟩ = some (.int .i64 rb) := by simp [go_sem]
        have s2 : World.cell? (y1.alloc (.cells #[.int .i64 ra, .int .i64 rb, .int .i64 rc] 27)) ⟨y1.heap.size, 2, none⟩ = some (.int .i64 rc) := by simp [go_sem]
        replace n0 := keepc hn n0
        replace n1 := keepc hn n1
        replace n2 := keepc hn n2
        replace n3 := keepc hn n3
        replace HOW := Lib.hid (own_below HOW.out hn)
        replace HW := Lib.hid (on_below HW.out hn)
        have ls := block_lt s0
        clear ln0
        have ln0 := block_lt n0
        generalize y1.alloc (.cells #[.int .i64 ra, .int .i64 rb, .int .i64 rc] 27) = y2 at *
        clear hn
        go_wp2_with (at_builtin; refine wpList_app _ rfl (.tmp 67) (.tmp 72) 57 rfl w6.heap.size 74 i0 _ 4 32 Try.underlying57 hi0 hz0 hz1 hz2 rfl (by decide) _ _ _ rfl (HOW.out.alloc _) (some ⟨y2.heap.size, 0, none⟩) 1 1 [.int .i64 ra, .int .i64 rb, .int .i64 rc, .int .i64 qd] rfl rfl (src_new y2 #[.int .i64 ra, .int .i64 rb, .int .i64 rc, .int .i64 qd] 74) (q4c_one ⟨ra, rb, rc, qd⟩) hm1 hm2 (Nat.le_trans HW.out.size (below_new _ _).size) ?_; intro v1 u1 own1_ gr1; have hb1 := app_bel HW.out HOW.out gr1; have own1 := app_row4 (x := ⟨ra, rb, rc, qd⟩) own1_ HS_.out; clear gr1 own1_)
        go_roundw
        case rel => exact ⟨k + 1, hlt, int_of (by first | rfl | exact w1_ | exact w2_), own1, HV3.out, hb1⟩
        case measure => simp [intOf, w1_, w2_]; clear w1_ w2_; omega
    · have hke : k = t.length := Nat.le_antisymm hk (Nat.le_of_not_lt hlt)
      subst hke
      rw [mq_take t] at HO
      have hb := hW
      clear hW
      replace HB := Lib.hid (on_below HB.out hb)
      replace HT := Lib.hid (HT.out.below hb)
      replace HM := Lib.hid (HM.out.below hb)
      replace HL := Lib.hid (HL.out.below hb)
      replace p0 := keepc hb p0
      replace p1 := keepc hb p1
      replace p2 := keepc hb p2
      replace q0 := keepc hb q0
      replace q1 := keepc hb q1
      replace q2 := keepc hb q2
      replace a0 := keepc hb a0
      replace a1 := keepc hb a1
      replace a2 := keepc hb a2
      replace kp := blk_on kp hb
      replace kq := blk_on kq hb
      replace lp := Nat.lt_of_lt_of_le lp hb.size
      replace lq := Nat.lt_of_lt_of_le lq hb.size
      replace la := Nat.lt_of_lt_of_le la hb.size
      clear hb
      obtain ⟨mA, mC, rfl, _, _, _, hms⟩ := own_s4 HO.out
      have HR := Lib.hid hms
      clear HO hms
      go_wp2_with fail
      generalize wr = w7 at *
      go_loopw [19, 77] (fun v i wr => ∃ (k : Nat) (M : List Bv), k ≤ b.length ∧ i = .int .i64 k ∧ Hid (wr.ownsRow w7.heap.size 42 3 v M.length (flt bvc M)) ∧ Hid (Mvd wr v b M k du dv dw) ∧ Below w7.heap.size w7 wr) (fun _ i _ => b.length - (intOf i).toNat)
      case atStart => exact ⟨0, [], Nat.zero_le _, rfl, World.ownsRow_nil _ _ _ _, mvd_0 _ _ _ _ _, Below.refl _ _⟩
      case round =>
        obtain ⟨k, M, hk, rfl, HO, HMV, hW⟩ := hrel
        by_cases hlt : k < b.length
        · have hml : M.length = k := HMV.out.1
          have hm1 : M.length + 1 ≤ maxLen := by unfold maxLen; omega
          have hm2 : (M.length + 1) * 40 ≤ 140737488355328 := by omega
          clear hml
          obtain ⟨w1_, w2_, e5⟩ := kfacts (show b.length ≤ 102 by omega) hlt
          obtain ⟨b0, o0, rfl, e0, e1, e2, hsl⟩ := HM.out.below hW k hlt
          have HBK := Lib.hid (HBD.out k hlt)
          have HSM := Lib.hid (HBS.out k hlt)
          have HST := Lib.hid (fun (W u : World) (o : Obj) (v v2 : Value) (g C : Nat) (h : Mvd W v b M k du dv dw) (own : W.ownsRow w7.heap.size 42 3 v M.length (flt bvc M)) (gr : (W.alloc o).grownBy u v.ownBlock) (hs : SlS W (some ⟨g, 0, none⟩) (mv (gdB b k).xs du dv)) (hb : Bok (mv (gdB b k).xs du dv) ((gdB b k).lo + dw) ((gdB b k).hi + dw)) => mvd_step (C := C) (v' := v2) h own gr hs hb (fun _ => trivial))
          have xq0 := keepc hW q0
          have xq1 := keepc hW q1
          have xq2 := keepc hW q2
          generalize gdB b k = q at *
          obtain ⟨uA, uC, uxs, ul, uh⟩ := q
          dsimp only at e0 e1 e2 hsl HBK HSM HST
          unfold mvb at HST
          dsimp only at HST
          have HW := Lib.hid hW
          have HSL := Lib.hid hsl
          clear hW hsl
          have hn := below_new wr (.cells #[.slice uA uxs.length uC, .int .i64 ul, .int .i64 uh] 42)
          have n0 : World.cell? (wr.alloc (.cells #[.slice uA uxs.length uC, .int .i64 ul, .int .i64 uh] 42)) ⟨wr.heap.size, 0, none⟩ = some (.slice uA uxs.length uC) := by simp [go_sem]
          have n1 : World.cell? (wr.alloc (.cells #[.slice uA uxs.length uC, .int .i64 ul, .int .i64 uh] 42)) ⟨wr.heap.size, 1, none⟩ = some (.int .i64 ul) := by simp [go_sem]
          have n2 : World.cell? (wr.alloc (.cells #[.slice uA uxs.length uC, .int .i64 ul, .int .i64 uh] 42)) ⟨wr.heap.size, 2, none⟩ = some (.int .i64 uh) := by simp [go_sem]
          replace xq0 := keepc hn xq0
          replace xq1 := keepc hn xq1
          replace xq2 := keepc hn xq2
          have HOW := Lib.hid (own_below HO.out hn)
          replace HMV := Lib.hid (mvd_below HMV.out hn)
          replace HSL := Lib.hid (HSL.out.below hn)
          replace HW := Lib.hid (on_below HW.out hn)
          have ln0 := block_lt n0
          have lq0 := block_lt xq0
          clear hn HO
          go_wp2_with fail
          generalize wr.alloc (.cells #[.slice uA uxs.length uC, .int .i64 ul, .int .i64 uh] 42) = y0 at *
          by_cases hbm : Bok (mv uxs du dv) (ul + dw) (uh + dw)
          · have HBM := Lib.hid hbm
            clear hbm
            have hlm := mv_len uxs du dv
            have CM := Lib.hid (fun W (h : SlS W uA uxs) => move_ok uA uC uxs (mv uxs du dv) ul uh du dv dw (ul + dw) (uh + dw) HSM.out HBK.out (vv_iff.1 HY.out) HBM.out rfl rfl rfl W h)
            clear hlm
            generalize mv uxs du dv = ms at *
            generalize ul + dw = l2 at *
            generalize uh + dw = h2 at *
            with_reducible refine (CM.out _ HSL.out).mono ?_
            rintro e_ y1 ⟨g, gC, rfl, hgs, hb⟩
            have HGS := Lib.hid hgs
            clear hgs
            replace HOW := Lib.hid (own_below HOW.out hb)
            replace HMV := Lib.hid (mvd_below HMV.out hb)
            replace HW := Lib.hid (on_below HW.out hb)
            clear ln0 lq0 n0 n1 n2 hb CM
            go_upto_region 24 with fail
            have hn := below_new y1 (.cells #[.slice (some ⟨g, 0, none⟩) ms.length gC, .int .i64 l2, .int .i64 h2] 42)
            have s0 : World.cell? (y1.alloc (.cells #[.slice (some ⟨g, 0, none⟩) ms.length gC, .int .i64 l2, .int .i64 h2] 42)) ⟨y1.heap.size, 0, none⟩ = some (.slice (some ⟨g, 0, none⟩) ms.length gC) := by simp [go_sem]
            have s1 : World.cell? (y1.alloc (.cells #[.slice (some ⟨g, 0, none⟩) ms.length gC, .int .i64 l2, .int .i64 h2] 42)) ⟨y1.heap.size, 1, none⟩ = some (.int .i64 l2) := by simp [go_sem]
            have s2 : World.cell? (y1.alloc (.cells #[.slice (some ⟨g, 0, none⟩) ms.length gC, .int .i64 l2, .int .i64 h2] 42)) ⟨y1.heap.size, 2, none⟩ = some (.int .i64 h2) := by simp [go_sem]
            replace HOW := Lib.hid (own_below HOW.out hn)
            replace HMV := Lib.hid (mvd_below HMV.out hn)
            replace HGS := Lib.hid (HGS.out.below hn)
            replace HW := Lib.hid (on_below HW.out hn)
            have ls := block_lt s0
            generalize y1.alloc (.cells #[.slice (some ⟨g, 0, none⟩) ms.length gC, .int .i64 l2, .int .i64 h2] 42) = y2 at *
            clear hn
            go_wp2_with (at_builtin; refine wpList_app _ rfl (.tmp 90) (.tmp 92) 34 rfl w7.heap.size 42 i1 _ 3 40 Try.underlying34 hi1 hy0 hy1 hy2 rfl (by decide) _ _ _ rfl (HOW.out.alloc _) (some ⟨y2.heap.size, 0, none⟩) 1 1 [.slice (some ⟨g, 0, none⟩) ms.length gC, .int .i64 l2, .int .i64 h2] rfl rfl (src_new y2 #[.slice (some ⟨g, 0, none⟩) ms.length gC, .int .i64 l2, .int .i64 h2] 42) (bvc_one ⟨some ⟨g, 0, none⟩, gC, ms, l2, h2⟩) hm1 hm2 (Nat.le_trans HW.out.size (below_new _ _).size) ?_; intro v1 u1 own1_ gr1; have hb1 := app_bel HW.out HOW.out gr1; have own1 := app_rowB (x := ⟨some ⟨g, 0, none⟩, gC, ms, l2, h2⟩) own1_ rfl; have HMV2 := Lib.hid (HST.out y2 u1 _ _ v1 g gC HMV.out HOW.out gr1 HGS.out HBM.out); clear gr1 own1_)
            go_roundw
            case rel => exact ⟨k + 1, _, hlt, int_of (by first | rfl | exact w1_ | exact w2_), own1, HMV2.out, hb1⟩
            case measure => simp [intOf, w1_, w2_]; clear w1_ w2_; omega
          · have CM := Lib.hid (fun W (h : SlS W uA uxs) => move_no uA uC uxs ul uh du dv dw 3 HSM.out (Or.inr ⟨HBK.out, vv_iff.1 HY.out, Or.inr ⟨hbm, rfl⟩⟩) (by decide) W h)
            clear hbm
            with_reducible refine (CM.out _ HSL.out).mono ?_
            rintro e_ y1 ⟨rfl, hb⟩
            have HZ := Lib.hid (on_below HB.out (on_below HW.out hb))
            go_wp2_with fail
            go_ret
            exact ⟨rfl, on_below HZ.out (below_new _ _)⟩
        · have hke : k = b.length := Nat.le_antisymm hk (Nat.le_of_not_lt hlt)
          subst hke
          have hb := hW
          clear hW
          replace HB := Lib.hid (on_below HB.out hb)
          replace HT := Lib.hid (HT.out.below hb)
          replace HM := Lib.hid (HM.out.below hb)
          replace HL := Lib.hid (HL.out.below hb)
          replace HR := Lib.hid (HR.out.below hb)
          replace p0 := keepc hb p0
          replace p1 := keepc hb p1
          replace p2 := keepc hb p2
          replace q0 := keepc hb q0
          replace q1 := keepc hb q1
          replace q2 := keepc hb q2
          replace a0 := keepc hb a0
          replace a1 := keepc hb a1
          replace a2 := keepc hb a2
          replace kp := blk_on kp hb
          replace kq := blk_on kq hb
          replace lp := Nat.lt_of_lt_of_le lp hb.size
          replace lq := Nat.lt_of_lt_of_le lq hb.size
          replace la := Nat.lt_of_lt_of_le la hb.size
          clear hb
          obtain ⟨hml, _, hmj⟩ := HMV.out
          have HMJ := Lib.hid hmj
          clear hmj
          obtain ⟨nA, nC, rfl, _, _, _, hns⟩ := own_bds HO.out (fun j hj => by obtain ⟨g, C, e, hs, _⟩ := HMJ.out j (by omega); rw [e]; exact hs)
          have HN := Lib.hid hns
          clear HO hns
          go_wp2_with fail
          have hmv := moved_wrg HE.out HE0.out HV.out hml HMJ.out
          have CL := fun W (x : S4 W mA (t.map (mq du dv dw))) (c : BdS W nA M) => lines_1 (ex + du) (ey + dv) (ez + dw) mA mC (t.map (mq du dv dw)) nA nC M (by rw [mq_len]; omega) (by omega) hmv.1 W x c
          rw [hmv.2] at CL
          simp only [List.length_map, hml] at CL
          replace CL := Lib.hid CL
          clear hmv
          have CS := fun W (x : S4 W (some ⟨g0, 0, none⟩) (lns ex ey ez t b)) (g : Nat) (y : S4 W (some ⟨g, 0, none⟩) (lns ex ey ez t b)) => qsames_is (some ⟨g0, 0, none⟩) (some ⟨g, 0, none⟩) t.length t.length (lns ex ey ez t b) (lns ex ey ez t b) (by rw [lns_len]; omega) (by rw [lns_len]; omega) true (iff_of_true rfl rfl) W x y
          simp only [lns_len] at CS
          replace CS := Lib.hid CS
          with_reducible refine (CL.out _ HR.out HN.out).mono ?_
          rintro e_ w8 ⟨g1, rfl, hs1, hb⟩
          replace HB := Lib.hid (on_below HB.out hb)
          replace HT := Lib.hid (HT.out.below hb)
          replace HM := Lib.hid (HM.out.below hb)
          replace HL := Lib.hid (HL.out.below hb)
          replace HR := Lib.hid (HR.out.below hb)
          replace HN := Lib.hid (HN.out.below hb)
          replace p0 := keepc hb p0
          replace p1 := keepc hb p1
          replace p2 := keepc hb p2
          replace q0 := keepc hb q0
          replace q1 := keepc hb q1
          replace q2 := keepc hb q2
          replace a0 := keepc hb a0
          replace a1 := keepc hb a1
          replace a2 := keepc hb a2
          replace kp := blk_on kp hb
          replace kq := blk_on kq hb
          replace lp := Nat.lt_of_lt_of_le lp hb.size
          replace lq := Nat.lt_of_lt_of_le lq hb.size
          replace la := Nat.lt_of_lt_of_le la hb.size
          clear hb
          have HL2 := Lib.hid hs1
          clear hs1
          go_wp2_with fail
          with_reducible refine (CS.out _ HL.out _ HL2.out).mono ?_
          rintro e_ w9 ⟨rfl, hb⟩
          replace HB := Lib.hid (on_below HB.out hb)
          replace HT := Lib.hid (HT.out.below hb)
          replace HM := Lib.hid (HM.out.below hb)
          replace HL := Lib.hid (HL.out.below hb)
          replace HR := Lib.hid (HR.out.below hb)
          replace HN := Lib.hid (HN.out.below hb)
          replace HL2 := Lib.hid (HL2.out.below hb)
          replace p0 := keepc hb p0
          replace p1 := keepc hb p1
          replace p2 := keepc hb p2
          replace q0 := keepc hb q0
          replace q1 := keepc hb q1
          replace q2 := keepc hb q2
          replace a0 := keepc hb a0
          replace a1 := keepc hb a1
          replace a2 := keepc hb a2
          replace kp := blk_on kp hb
          replace kq := blk_on kq hb
          replace lp := Nat.lt_of_lt_of_le lp hb.size
          replace lq := Nat.lt_of_lt_of_le lq hb.size
          replace la := Nat.lt_of_lt_of_le la hb.size
          clear hb
          go_wp2_with fail
          go_ret
          exact ⟨rfl, HB.out⟩
theorem law_any (ex ey ez du dv dw : Int) (tA : Option Addr) (tC : Nat) (t : List Q4) (bA : Option Addr) (bC : Nat) (b : List Bv) (w : World) (lt : L4 w tA tC t) (lb : LB w bA bC b) :
    Calls Try.prog 12 #[.agg #[.int .i64 ex, .int .i64 ey, .int .i64 ez], .agg #[.int .i64 du, .int .i64 dv, .int .i64 dw], .slice tA t.length tC, .slice bA b.length bC] w fun e_ w' => e_ = .returned (.bool true) ∧ Below w.heap.size w w' := by
  have h4 : t.length ≤ 9223372036854775807 := Nat.le_trans lt.cap.1 lt.cap.2
  have h5 : b.length ≤ 9223372036854775807 := Nat.le_trans lb.cap.1 lb.cap.2
  have h6 := lb.len
  by_cases hf : Few t.length b
  · obtain ⟨E, hE⟩ := wrg_ex ex ey ez t b
    by_cases h0 : E = 0
    · subst h0
      by_cases hF : sE (vv ex ey ez) (vv du dv dw) (vv (ex + du) (ey + dv) (ez + dw)) = 0
      · exact mov_3 ex ey ez du dv dw tA tC t bA bC b h4 h5 h6 hf hE (sE_ok.1 hF).2.1 hF w lt.sl lb.sl
      · exact mov_2 ex ey ez du dv dw tA tC t bA bC b h4 h5 h6 hf hE _ _ _ _ hF rfl rfl rfl rfl w lt.sl lb.sl
    · exact mov_1 ex ey ez du dv dw tA tC t bA bC b h4 h5 h6 hf E hE h0 w lt.sl lb.sl
  · exact mov_0 ex ey ez du dv dw tA tC t bA bC b h4 h5 h6 hf w lt.sl lb.sl
/-! ### The row -/
open Go.ChangeShapes Go.WideShapes Go.ChangeAt Go.Joins
theorem own : ownKnob Try.prog.godebug = none := by kernel_rfl
noncomputable def laidWorld (os : Os) : World := World.holding Try.prog os ⟨#[], #[], []⟩
theorem laidWorld_met (os : Os) (args : Array Value) : laidMet Try.prog [] ((laidWorld os).forCall (fun _ _ => 0) ⟨#[], args, []⟩).memory :=
  laidMet_of_run' 8 (by kernel_rfl) (by kernel_rfl)

set_option maxRecDepth 100000 in
theorem contract (H : Type) (enc : TypeId × Value → H) (W : World) (base : Nat) (args : Array Value) (ds gs : List (DataW H)) (before : List MemPlace)
    (hval : ∀ (j : Nat) t v, Try.f12.params[j]? = some t → args[j]? = some v → Value.okWide Try.prog W .any base t v)
    (hW : DataW.Whole enc Try.prog Try.f12.params.toList Rows.sightMovesSpec.vars false W args.toList ds gs before) :
    Calls Try.prog 12 args W fun e W' => ∃ v, e = .returned v ∧ Rows.sightMovesSpec.post enc Try.prog Try.f12 false true false false W args v W' := by
  have hW' := hW
  have hold : ∀ q ∈ before, decide (q.block < W.heap.size) = true := fun q hq => by simpa using hW.lt q hq
  obtain ⟨p, q, hA0, hV, rfl, hfz, hnd⟩ := hW
  have hA : DataW.TrodAll enc Try.prog W 0 (fun _ => true) true Try.f12.params.toList args.toList ds p := hA0
  rw [Try.params12] at hA hval
  obtain ⟨v0, vs0, d0, ds0, p0, q0, hargs, rfl, rfl, h0, r0⟩ := trodAll_cons hA
  obtain ⟨v1, vs1, d1, ds1, p1, q1, rfl, rfl, rfl, h1, r1⟩ := trodAll_cons r0
  obtain ⟨v2, vs2, d2, ds2, p2, q2, rfl, rfl, rfl, h2, r2⟩ := trodAll_cons r1
  obtain ⟨v3, vs3, d3, ds3, p3, q3, rfl, rfl, rfl, h3, r3⟩ := trodAll_cons r2
  obtain ⟨rfl, rfl, rfl⟩ := trodAll_nil r3
  obtain rfl : args = #[v0, v1, v2, v3] := Array.toList_inj.1 hargs
  obtain ⟨rfl, rfl⟩ := trodVars_none hV
  obtain ⟨ex, ey, ez, rfl, rfl, rfl, iex, iey, iez⟩ := open_vec (hval 0 27 v0 rfl rfl) h0
  obtain ⟨dx, dy, dz, rfl, rfl, rfl, idx, idy, idz⟩ := open_vec (hval 1 27 v1 rfl rfl) h1
  obtain ⟨tA, tC, t, rfl, lt, shutt⟩ := open_targets (hval 2 57 v2 rfl rfl) h2
  obtain ⟨bA, bC, b, rfl, lb, shutb⟩ := open_bodies (hval 3 34 v3 rfl rfl) h3
  clear hA0
  refine (law_any ex ey ez dx dy dz tA tC t bA bC b W lt lb).mono fun e W' ⟨he, bel⟩ => ?_
  subst he
  exact ⟨_, rfl, _, _, _, [], _, [], hW', trodAll_mk1 (shut_bool Try.underlying4 _), (trodAll_cons_mk (shut_vec iex iey iez) (trodAll_cons_mk (shut_vec idx idy idz) (trodAll_cons_mk (shutt W' (fun b => decide (b < W.heap.size)) bel (fun q hq => hold q (by simp [hq]))) (trodAll_cons_mk (shutb W' (fun b => decide (b < W.heap.size)) bel (fun q hq => hold q (by simp [hq]))) trodAll_mk0)))), rfl, bel.frame _, fun h => by cases h⟩

theorem reads (os : Os) {H : Type} (enc : TypeId × Value → H) : ∃ places, DataW.whole enc Try.prog ((laidWorld os).forCall (fun _ _ => 0) ⟨#[], #[.agg #[.int .i64 0, .int .i64 0, .int .i64 0], .agg #[.int .i64 0, .int .i64 0, .int .i64 0], .slice none 0 0, .slice none 0 0], []⟩).memory Try.f12.params.toList Rows.sightMovesSpec.vars false (#[.agg #[.int .i64 0, .int .i64 0, .int .i64 0], .agg #[.int .i64 0, .int .i64 0, .int .i64 0], .slice none 0 0, .slice none 0 0] : Array Value).toList 8 = some ([.agg [.lit (.int .i64 0), .lit (.int .i64 0), .lit (.int .i64 0)], .agg [.lit (.int .i64 0), .lit (.int .i64 0), .lit (.int .i64 0)], .nil, .nil], [], places) :=
  ⟨[], by kernel_rfl⟩

set_option maxRecDepth 100000 in
theorem lifted (os : Os) (started : os.Started) (H : Type) (enc : TypeId × Value → H) (F : Stop.Interp) :
    ReturnsInHanded {} Try.checked os 12 .any ((OpenSpec.ofChange Rows.sightMovesSpec).preRow enc Try.prog Try.f12 Rows.sightMovesRow.domain false Rows.sightMovesRow.laid) (((OpenSpec.ofChange Rows.sightMovesSpec).at F).post enc Try.prog Try.f12 false true false false) := by
  obtain ⟨places, hx⟩ := reads os enc
  refine returnsInHanded_of_row (C := Try.checked) (s := OpenSpec.ofChange Rows.sightMovesSpec) own started (by kernel_rfl) Try.func12
    (witness_row_atRef (enc := enc) (C := Try.checked) false (laidWorld os) #[.agg #[.int .i64 0, .int .i64 0, .int .i64 0], .agg #[.int .i64 0, .int .i64 0, .int .i64 0], .slice none 0 0, .slice none 0 0] rfl (by kernel_rfl) (by kernel_rfl) (by kernel_rfl)
      (OpenSpec.preRow_of_cond 8 hx (by kernel_rfl) (fun k hk => by cases hk) (by kernel_rfl) (laidWorld_met os _))) ?_
  intro W base args ds gs before hval hW _ hcond _ hL hsh _
  exact contract H enc W base args ds gs before hval hW

/-- The statement. -/
theorem said : Rows.SightMovesSaid :=
  OpenClaim.holds_of_cond 12 Try.f12 rfl rfl rfl rfl rfl rfl rfl ⟨rfl, rfl, rfl, rfl, rfl⟩ rfl rfl rfl rfl rfl (by kernel_rfl) Try.func12 (by kernel_rfl)
    (of_decide_eq_true (by kernel_rfl)) (by unfold Func.isWrapper; first | (rw [if_pos (by decide +kernel)]; kernel_rfl) | (rw [if_neg (by decide +kernel)]; exact ⟨rfl, rfl⟩))
    (fun os started H enc _ F => by rw [OpenClaim.pre_eq_preRow]; exact lifted os started H enc F)
end Go.Proofs.Ytjjimbaogpmbmaa.LawMoves
