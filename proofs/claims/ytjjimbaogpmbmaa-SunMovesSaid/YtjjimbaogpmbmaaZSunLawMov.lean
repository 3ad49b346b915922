/-
  SunMoves.
-/
import Derived.Test.YtjjimbaogpmbmaaZSunZN
import Derived.Test.YtjjimbaogpmbmaaRows
import Derived.ProofKit
import Derived.OpenShut
import Derived.Deep.DeepHandedRow
import Derived.Deep.DeepWitnessRowRef
import Derived.MakeChecks
import Derived.Deep.DeepCutAuto
import Derived.Deep.QuietTactic
import Derived.BigQuiet
namespace Go.Proofs.Ytjjimbaogpmbmaa.LawMov
open Go.RowKit Go.Sort
open Go.RowKit (Below)
set_option linter.unusedVariables false
set_option linter.unusedSimpArgs false
attribute [local go_sem] Oper.semAt_some

theorem own_below {w w' : World} {base n : Nat} {e : TypeId} {v : Value} {vs : List Value} {size : Nat} (h : w.ownsRow base e size v n vs) (hb : Below w.heap.size w w') : w'.ownsRow base e size v n vs := by
  refine ⟨h.1, ?_⟩
  rcases h.2 with h0 | ⟨g, cap, cur, hv, hbg, hg, h3⟩
  · exact .inl h0
  · refine .inr ⟨g, cap, cur, hv, hbg, ?_, h3⟩
    have : g < w.heap.size := by
      rcases Nat.lt_or_ge g w.heap.size with h' | h'
      · exact h'
      · rw [Array.getElem?_eq_none h'] at hg; cases hg
    rw [hb.block g this]
    exact hg
theorem sE_ok {p q r : Bool} : sE p q r = 0 ↔ p = true ∧ q = true ∧ r = true := by cases p <;> cases q <;> cases r <;> decide
theorem boxes4 (W : World) (o0 o1 o2 o3 : Obj) {V : World} (hV : ((((W.alloc o0).alloc o1).alloc o2).alloc o3) = V) : Below W.heap.size W V ∧ V.heap[W.heap.size]? = some o0 ∧ V.heap[W.heap.size + 1]? = some o1 ∧ V.heap[W.heap.size + 1 + 1]? = some o2 ∧ V.heap[W.heap.size + 1 + 1 + 1]? = some o3 := by
  subst hV
  have nb : ∀ (U : World) (k : Nat) (o : Obj), U.heap.size = k → (U.alloc o).heap[k]? = some o := fun U k o h => by subst h; exact World.alloc_heap_new U o
  refine ⟨(((((Below.refl _ W).alloc (Nat.le_refl _) _).alloc (by simp) _).alloc (by simp <;> omega) _).alloc (by simp <;> omega) _), ?_, ?_, ?_, ?_⟩
  · refine blk_new ?_ _; refine blk_new ?_ _; refine blk_new ?_ _; exact nb _ _ _ (by simp)
  · refine blk_new ?_ _; refine blk_new ?_ _; exact nb _ _ _ (by simp)
  · refine blk_new ?_ _; exact nb _ _ _ (by simp)
  · exact nb _ _ _ (by simp)
theorem glr_ex (T : List Q4) (m ex ey ez tx ty tz N D : Int) (L : List Bv) : ∃ r E, GlrR T m ex ey ez tx ty tz N D L r E := by
  classical
  by_cases h0 : 60 < L.length
  · exact ⟨false, 2, Or.inl ⟨h0, rfl, rfl⟩⟩
  · by_cases h1 : Ok2 T m ex ey ez tx ty tz N D L
    · obtain ⟨x, y, z, hd⟩ := dir_ex h1.1.1.n1 m
      by_cases h2 : z ≤ 0 ∨ (tx = ex ∧ ty = ey ∧ tz = ez)
      · exact ⟨false, 0, Or.inr (Or.inr ⟨by omega, h1, x, y, z, hd, Or.inl ⟨h2, rfl, rfl⟩⟩)⟩
      · by_cases h3 : vv (ex + x) (ey + y) (ez + z) = true ∧ vv (tx - ex) (ty - ey) (tz - ez) = true
        · exact ⟨decide _, 0, Or.inr (Or.inr ⟨by omega, h1, x, y, z, hd, Or.inr (Or.inr ⟨⟨by omega, fun e => h2 (Or.inr e)⟩, h3, decide_eq_true_iff, rfl⟩)⟩)⟩
        · exact ⟨false, 3, Or.inr (Or.inr ⟨by omega, h1, x, y, z, hd, Or.inr (Or.inl ⟨⟨by omega, fun e => h2 (Or.inr e)⟩, h3, rfl, rfl⟩)⟩)⟩
    · exact ⟨false, 1, Or.inr (Or.inl ⟨by omega, h1, rfl, rfl⟩)⟩
theorem move_ok (A : Option Addr) (C : Nat) (ys ms : List (Int × Int)) (lo hi x y z l h : Int) (hly : ys.length ≤ 9223372036854775806) (hb : Bok ys lo hi) (hv : V3 x y z) (hm : Bok ms l h) (em : mv ys x y = ms) (el : lo + z = l) (eh : hi + z = h) (w : World) (hl : SlS w A ys) :
    Calls Try.prog 22 #[.agg #[.slice A ys.length C, .int .i64 lo, .int .i64 hi], .agg #[.int .i64 x, .int .i64 y, .int .i64 z]] w fun e_ w' => ∃ g C', e_ = .returned (.tuple #[.agg #[.slice (some ⟨g, 0, none⟩) ms.length C', .int .i64 l, .int .i64 h], .int .i64 0]) ∧ SlS w' (some ⟨g, 0, none⟩) ms ∧ Below w.heap.size w w' := by
  subst em el eh
  refine (pmove_is A C ys lo hi x y z hly 0 (Or.inr ⟨hb, hv, Or.inl ⟨hm, rfl⟩⟩) w hl).mono ?_
  rintro e_ w' ⟨h1, _, hw⟩
  obtain ⟨g, C', rfl, _, _, hs⟩ := h1 rfl
  exact ⟨g, C', by rw [mv_len], hs, hw⟩
theorem move_no (A : Option Addr) (C : Nat) (ys : List (Int × Int)) (lo hi x y z E : Int) (hly : ys.length ≤ 9223372036854775806) (hE : MvE ys lo hi x y z E) (hn : E ≠ 0) (w : World) (hl : SlS w A ys) :
    Calls Try.prog 22 #[.agg #[.slice A ys.length C, .int .i64 lo, .int .i64 hi], .agg #[.int .i64 x, .int .i64 y, .int .i64 z]] w fun e_ w' => e_ = .returned (.tuple #[.agg #[.slice none 0 0, .int .i64 0, .int .i64 0], .int .i64 E]) ∧ Below w.heap.size w w' :=
  (pmove_is A C ys lo hi x y z hly E hE w hl).mono fun e_ w' ⟨_, h2, hw⟩ => ⟨h2 hn, hw⟩
theorem app_rowB {u : World} {B : Nat} {e : TypeId} {v : Value} {L M : List Bv} {x : Bv} (h : u.ownsRow B e 3 v (L.length + 1) (flt bvc L ++ bvc x)) (hM : L ++ [x] = M) : u.ownsRow B e 3 v M.length (flt bvc M) := by
  subst hM
  rw [List.length_append, ← flt_snoc]
  exact h
theorem app_bel {V wr u : World} {o : Obj} {e : TypeId} {size n : Nat} {v : Value} {xs : List Value} (hb : Below V.heap.size V wr) (own : wr.ownsRow V.heap.size e size v n xs) (gr : (wr.alloc o).grownBy u v.ownBlock) : Below V.heap.size V u :=
  app_below (on_below hb (below_new wr o)) (Nat.le_trans hb.size (below_new wr o).size) (own.alloc o) (Nat.le_refl _) gr
theorem own_take0 {α : Type} (w : World) (B : Nat) (e : TypeId) (size : Nat) (R : List α) (f : α → List Value) : w.ownsRow B e size (.slice none 0 0) (R.take 0).length (flt f (R.take 0)) := by
  rw [List.take_zero]; exact World.ownsRow_nil _ _ _ _
theorem src_new (w : World) (cs : Array Value) (t : TypeId) : Src (w.alloc (.cells cs t)) (some ⟨w.heap.size, 0, none⟩) cs.toList := fun j u hu => ⟨_, rfl, World.news_of_block (World.alloc_heap_new w _) j u hu⟩
theorem kfacts {k l : Nat} (hl : l ≤ 102) (hk : k < l) : IntKind.i64.wrap ((k : Int) + 1) = (k : Int) + 1 ∧ wrap64 ((k : Int) + 1) = (k : Int) + 1 ∧ (k : Int) < l :=
  ⟨wrp1 ⟨by omega, by omega⟩, wrp2 ⟨by omega, by omega⟩, by omega⟩
/-- Moved bodies, in memory of their own. -/
def Mvd (W : World) (v : Value) (b M : List Bv) (k : Nat) (x y z : Int) : Prop :=
  M.length = k ∧ (M = [] → v = .slice none 0 0) ∧ ∀ j, j < k → ∃ g C, gdB M j = mvb (gdB b j) (some ⟨g, 0, none⟩) C x y z ∧ SlS W (some ⟨g, 0, none⟩) (mv (gdB b j).xs x y) ∧ Bok (mv (gdB b j).xs x y) ((gdB b j).lo + z) ((gdB b j).hi + z)
theorem mvd_0 (W : World) (b : List Bv) (x y z : Int) : Mvd W (.slice none 0 0) b [] 0 x y z := ⟨rfl, fun _ => rfl, fun j hj => absurd hj (Nat.not_lt_zero j)⟩
/-- A slice of points does not lie in the row of bodies: their first cells differ. -/
theorem row_far {W : World} {B n : Nat} {e : TypeId} {v : Value} {M : List Bv} (own : W.ownsRow B e 3 v n (flt bvc M)) (hv : M = [] → v = .slice none 0 0) {g : Nat} {xs : List (Int × Int)} (h : SlS W (some ⟨g, 0, none⟩) xs) (hx : 0 < xs.length) : some g ≠ v.ownBlock := by
  intro e1
  cases M with
  | nil => rw [hv rfl] at e1; cases e1
  | cons x r =>
    obtain ⟨A, C, hv2, _, _, hc⟩ := own_form own
    obtain ⟨g2, rfl, _, c0⟩ := hc 0 (.slice x.A x.xs.length x.C) rfl
    rw [hv2] at e1
    have e2 : g = g2 := by simpa [Value.ownBlock] using e1
    subst e2
    obtain ⟨b1, o1, e3, c1, _⟩ := h 0 hx
    obtain ⟨rfl, rfl⟩ : g = b1 ∧ 0 = o1 := by simpa using e3
    rw [show 0 + 0 * 2 = 0 by rfl] at c1
    rw [c1] at c0
    cases c0
theorem mvd_below {W W' : World} {v : Value} {b M : List Bv} {k : Nat} {x y z : Int} (h : Mvd W v b M k x y z) (hb : Below W.heap.size W W') : Mvd W' v b M k x y z :=
  ⟨h.1, h.2.1, fun j hj => by obtain ⟨g, C, h1, h2, h3⟩ := h.2.2 j hj; exact ⟨g, C, h1, h2.below hb, h3⟩⟩
/-- One more body behind an append. -/
theorem mvd_step {wr u : World} {o : Obj} {B : Nat} {e : TypeId} {v v' : Value} {b M : List Bv} {k : Nat} {x y z : Int} {g C : Nat} (h : Mvd wr v b M k x y z) (own : wr.ownsRow B e 3 v M.length (flt bvc M)) (gr : (wr.alloc o).grownBy u v.ownBlock)
    (hs : SlS wr (some ⟨g, 0, none⟩) (mv (gdB b k).xs x y)) (hb : Bok (mv (gdB b k).xs x y) ((gdB b k).lo + z) ((gdB b k).hi + z)) (hv : v' ≠ .slice none 0 0 → True) : Mvd u v' b (M ++ [mvb (gdB b k) (some ⟨g, 0, none⟩) C x y z]) (k + 1) x y z := by
  have keep : ∀ {g : Nat} {xs : List (Int × Int)}, 0 < xs.length → SlS wr (some ⟨g, 0, none⟩) xs → SlS u (some ⟨g, 0, none⟩) xs := by
    intro g xs hx hs
    have hf := row_far own h.2.1 hs hx
    refine (hs.below (below_new wr o)).same fun b o e hlt => ?_
    obtain ⟨rfl, rfl⟩ : g = b ∧ 0 = o := by simpa using e
    exact gr.block g hlt hf
  refine ⟨by rw [List.length_append, h.1]; rfl, fun e => by simp at e, fun j hj => ?_⟩
  rcases Nat.lt_succ_iff_lt_or_eq.1 hj with e | rfl
  · obtain ⟨g1, C1, h1, h2, h3⟩ := h.2.2 j e
    exact ⟨g1, C1, by rw [gdB_app_l (by rw [h.1]; exact e)]; exact h1, keep (by have := h3.n3; omega) h2, h3⟩
  · refine ⟨g, C, ?_, keep (by have := hb.n3; omega) hs, hb⟩
    rw [gdB_app_r (by rw [h.1]; omega), h.1, Nat.sub_self]; rfl
theorem far_set3 {W : World} {g g5 : Nat} {ms : List (Int × Int)} {u0 u1 u2 : Value} (h : SlS W (some ⟨g, 0, none⟩) ms) (hn : g ≠ g5) : SlS (((W.setCell ⟨g5, 0, none⟩ u0).setCell ⟨g5, 1, none⟩ u1).setCell ⟨g5, 2, none⟩ u2) (some ⟨g, 0, none⟩) ms := by
  refine h.same fun b o e _ => ?_
  obtain ⟨rfl, rfl⟩ : g = b ∧ 0 = o := by simpa using e
  rw [Below.heap_setCell _ ⟨g5, 2, none⟩ _ _ hn, Below.heap_setCell _ ⟨g5, 1, none⟩ _ _ hn, Below.heap_setCell _ ⟨g5, 0, none⟩ _ _ hn]
theorem sls_lt {W : World} {g : Nat} {ms : List (Int × Int)} (h : SlS W (some ⟨g, 0, none⟩) ms) (hm : 0 < ms.length) : g < W.heap.size := by
  obtain ⟨b1, o1, e3, c1, _⟩ := h 0 hm
  obtain ⟨rfl, rfl⟩ : g = b1 ∧ 0 = o1 := by simpa using e3
  exact block_lt c1
theorem sls_ne {W : World} {g g5 : Nat} {ms : List (Int × Int)} {A : Option Addr} {n C : Nat} {u1 u2 : Value} {ty : TypeId} {fz : Nat × Nat} (h : SlS W (some ⟨g, 0, none⟩) ms) (hm : 0 < ms.length) (hz : W.heap[g5]? = some (.cells #[.slice A n C, u1, u2] ty fz)) : g ≠ g5 := by
  rintro rfl
  obtain ⟨b1, o1, e3, c1, _⟩ := h 0 hm
  obtain ⟨rfl, rfl⟩ : g = b1 ∧ 0 = o1 := by simpa using e3
  rw [show 0 + 0 * 2 = 0 by rfl, (cells3 hz).1] at c1
  cases c1
section
variable {T : List Q4} {m ex ey ez tx ty tz du dv dw N Q : Int} {L M : List Bv}
/-- The moved bodies, plainly. -/
def Mvp (L M : List Bv) (x y z : Int) : Prop := M.length = L.length ∧ ∀ j, j < L.length → ∃ A C, gdB M j = mvb (gdB L j) A C x y z
theorem blk_mv (hm : Mvp L M du dv dw) {x y z : Int} : Blk (ex + du) (ey + dv) (ez + dw) x y z M ↔ Blk ex ey ez x y z L := by
  have each : ∀ j, j < L.length → hit (ex + du) (ey + dv) (ez + dw) (ex + du + x) (ey + dv + y) (ez + dw + z) (gdB M j) = hit ex ey ez (ex + x) (ey + y) (ez + z) (gdB L j) := fun j hj => by
    obtain ⟨A, C, e⟩ := hm.2 j hj
    rw [e, show ex + du + x = ex + x + du by omega, show ey + dv + y = ey + y + dv by omega, show ez + dw + z = ez + z + dw by omega]
    unfold hit
    rw [rng_mv]
  constructor
  · rintro ⟨j, hj, h⟩
    rw [hm.1] at hj
    exact ⟨j, hj, by rw [← each j hj]; exact h⟩
  · rintro ⟨j, hj, h⟩
    exact ⟨j, by rw [hm.1]; exact hj, by rw [each j hj]; exact h⟩
theorem shd_moved {r s : Bool} (hm : Mvp L M du dv dw) (h : ShdR T m ex ey ez L r 0) (k : ShdR T m (ex + du) (ey + dv) (ez + dw) M s 0) : r = s := by
  obtain ⟨_, _, x, y, z, hd, h⟩ := shd_ok h
  obtain ⟨_, _, x1, y1, z1, kd, k⟩ := shd_ok k
  obtain ⟨rfl, rfl, rfl⟩ := dir_fun hd kd
  rcases h with ⟨h1, rfl⟩ | ⟨h1, _, h3⟩ <;> rcases k with ⟨k1, rfl⟩ | ⟨k1, _, k3⟩
  · rfl
  · omega
  · omega
  · rw [Bool.eq_iff_iff, h3, k3, blk_mv hm]
theorem glr_moved {r s : Bool} (hm : Mvp L M du dv dw) (h : GlrR T m ex ey ez tx ty tz N Q L r 0) (k : GlrR T m (ex + du) (ey + dv) (ez + dw) (tx + du) (ty + dv) (tz + dw) N Q M s 0) : r = s := by
  rcases h with ⟨_, _, h⟩ | ⟨_, _, _, h⟩ | ⟨_, _, x, y, z, hd, h⟩
  · cases h
  · cases h
  rcases k with ⟨_, _, k⟩ | ⟨_, _, _, k⟩ | ⟨_, _, x1, y1, z1, kd, k⟩
  · cases k
  · cases k
  obtain ⟨rfl, rfl, rfl⟩ := dir_fun hd kd
  rw [show tx + du - (ex + du) = tx - ex by omega, show ty + dv - (ey + dv) = ty - ey by omega, show tz + dw - (ez + dw) = tz - ez by omega] at k
  rcases h with ⟨h1, rfl, _⟩ | ⟨_, _, _, h⟩ | ⟨h1, h2, h3, _⟩
  · rcases k with ⟨k1, rfl, _⟩ | ⟨_, _, _, k⟩ | ⟨k1, k2, k3, _⟩
    · rfl
    · cases k
    · exfalso
      rcases h1 with h1 | ⟨a, b, c⟩
      · have := k1.1; omega
      · exact k1.2 ⟨by omega, by omega, by omega⟩
  · cases h
  · rcases k with ⟨k1, rfl, _⟩ | ⟨_, _, _, k⟩ | ⟨k1, k2, k3, _⟩
    · exfalso
      rcases k1 with k1 | ⟨a, b, c⟩
      · have := h1.1; omega
      · exact h1.2 ⟨by omega, by omega, by omega⟩
    · cases k
    · rw [Bool.eq_iff_iff, h3, k3, blk_mv hm]
end
set_option maxRecDepth 100000 in
set_option maxHeartbeats 4000000 in
theorem mov_0 (tA : Option Addr) (tC : Nat) (t : List Q4) (m ex ey ez tx ty tz N Q : Int) (bA : Option Addr) (bC : Nat) (b : List Bv) (du dv dw : Int) (h4 : t.length ≤ 9223372036854775807) (h5 : b.length ≤ 9223372036854775807) (h6 : ∀ k, k < b.length → (gdB b k).xs.length ≤ 9223372036854775807) (iN : I64 N) (iQ : I64 Q) (hf : ¬ FewS t.length b) (w : World) (ht : S4 w tA t) (hm : BdS w bA b) :
    Calls Try.prog 6 #[.slice tA t.length tC, .int .i64 m, .agg #[.int .i64 ex, .int .i64 ey, .int .i64 ez], .agg #[.int .i64 tx, .int .i64 ty, .int .i64 tz], .agg #[.int .i64 N, .int .i64 Q], .slice bA b.length bC, .agg #[.int .i64 du, .int .i64 dv, .int .i64 dw]] w fun e_ w' => e_ = .returned (.bool true) ∧ Below w.heap.size w w' := by
  have HF := Lib.hid (fun W (h : BdS W bA b) => few10_is tA tC t bA bC b h4 h5 h6 false (by simp [hf]) W h)
  clear hf
  have HT := Lib.hid ht
  clear ht
  have HM := Lib.hid hm
  clear hm
  go_enter Try.func6, Try.ntmps6
  go_wp2_with fail
  obtain ⟨w1, hw1⟩ : ∃ V, ((((w.alloc (.cells #[.int .i64 ex, .int .i64 ey, .int .i64 ez] 27)).alloc (.cells #[.int .i64 tx, .int .i64 ty, .int .i64 tz] 27)).alloc (.cells #[.int .i64 N, .int .i64 Q] 39)).alloc (.cells #[.int .i64 du, .int .i64 dv, .int .i64 dw] 27)) = V := ⟨_, rfl⟩
  obtain ⟨hB_, kp, kq, ko, ky⟩ := boxes4 _ _ _ _ _ hw1
  rw [hw1]
  clear hw1
  have HB := Lib.hid hB_
  clear hB_
  have p0 := (cells3 kp).1
  have p1 := (cells3 kp).2.1
  have p2 := (cells3 kp).2.2
  have lp := block_lt p0
  have q0 := (cells3 kq).1
  have q1 := (cells3 kq).2.1
  have q2 := (cells3 kq).2.2
  have lq := block_lt q0
  have o0 := (two_cells ko).1
  have o1 := (two_cells ko).2.1
  have lo := block_lt o0
  have y0 := (cells3 ky).1
  have y1 := (cells3 ky).2.1
  have y2 := (cells3 ky).2.2
  have ly := block_lt y0
  replace HT := Lib.hid (HT.out.below HB.out)
  replace HM := Lib.hid (HM.out.below HB.out)
  with_reducible refine (head10_any _).mono ?_
  rintro e_ w2 ⟨rfl, hb⟩
  replace HB := Lib.hid (on_below HB.out hb)
  replace HT := Lib.hid (HT.out.below hb)
  replace HM := Lib.hid (HM.out.below hb)
  replace p0 := keepc hb p0
  replace p1 := keepc hb p1
  replace p2 := keepc hb p2
  replace q0 := keepc hb q0
  replace q1 := keepc hb q1
  replace q2 := keepc hb q2
  replace o0 := keepc hb o0
  replace o1 := keepc hb o1
  replace y0 := keepc hb y0
  replace y1 := keepc hb y1
  replace y2 := keepc hb y2
  replace kp := blk_on kp hb
  replace kq := blk_on kq hb
  replace ko := blk_on ko hb
  replace ky := blk_on ky hb
  replace lp := Nat.lt_of_lt_of_le lp hb.size
  replace lq := Nat.lt_of_lt_of_le lq hb.size
  replace lo := Nat.lt_of_lt_of_le lo hb.size
  replace ly := Nat.lt_of_lt_of_le ly hb.size
  clear hb
  go_wp2_with fail
  with_reducible refine (HF.out _ HM.out).mono ?_
  rintro e_ w3 ⟨rfl, hb⟩
  replace HB := Lib.hid (on_below HB.out hb)
  replace HT := Lib.hid (HT.out.below hb)
  replace HM := Lib.hid (HM.out.below hb)
  replace p0 := keepc hb p0
  replace p1 := keepc hb p1
  replace p2 := keepc hb p2
  replace q0 := keepc hb q0
  replace q1 := keepc hb q1
  replace q2 := keepc hb q2
  replace o0 := keepc hb o0
  replace o1 := keepc hb o1
  replace y0 := keepc hb y0
  replace y1 := keepc hb y1
  replace y2 := keepc hb y2
  replace kp := blk_on kp hb
  replace kq := blk_on kq hb
  replace ko := blk_on ko hb
  replace ky := blk_on ky hb
  replace lp := Nat.lt_of_lt_of_le lp hb.size
  replace lq := Nat.lt_of_lt_of_le lq hb.size
  replace lo := Nat.lt_of_lt_of_le lo hb.size
  replace ly := Nat.lt_of_lt_of_le ly hb.size
  clear hb
  go_wp2_with fail
  go_ret
  exact ⟨rfl, HB.out⟩
set_option maxRecDepth 100000 in
set_option maxHeartbeats 4000000 in
theorem mov_1 (tA : Option Addr) (tC : Nat) (t : List Q4) (m ex ey ez tx ty tz N Q : Int) (bA : Option Addr) (bC : Nat) (b : List Bv) (du dv dw : Int) (h4 : t.length ≤ 9223372036854775807) (h5 : b.length ≤ 9223372036854775807) (h6 : ∀ k, k < b.length → (gdB b k).xs.length ≤ 9223372036854775807) (iN : I64 N) (iQ : I64 Q) (hf : FewS t.length b) (E G ux uy uz vx vy vz : Int) (hA : sE (vv ex ey ez) (vv du dv dw) (vv (ex + du) (ey + dv) (ez + dw)) = E) (a1 : kp E (ex + du) = ux) (a2 : kp E (ey + dv) = uy) (a3 : kp E (ez + dw) = uz) (hB : sE (vv tx ty tz) (vv du dv dw) (vv (tx + du) (ty + dv) (tz + dw)) = G) (c1 : kp G (tx + du) = vx) (c2 : kp G (ty + dv) = vy) (c3 : kp G (tz + dw) = vz) (hz : E ≠ 0) (w : World) (ht : S4 w tA t) (hm : BdS w bA b) :
    Calls Try.prog 6 #[.slice tA t.length tC, .int .i64 m, .agg #[.int .i64 ex, .int .i64 ey, .int .i64 ez], .agg #[.int .i64 tx, .int .i64 ty, .int .i64 tz], .agg #[.int .i64 N, .int .i64 Q], .slice bA b.length bC, .agg #[.int .i64 du, .int .i64 dv, .int .i64 dw]] w fun e_ w' => e_ = .returned (.bool true) ∧ Below w.heap.size w w' := by
  have HF := Lib.hid (fun W (h : BdS W bA b) => few10_is tA tC t bA bC b h4 h5 h6 true (by simp [hf]) W h)
  have CA := Lib.hid (fun W => add_is ex ey ez du dv dw ux uy uz E hA a1 a2 a3 W)
  have CB := Lib.hid (fun W => add_is tx ty tz du dv dw vx vy vz G hB c1 c2 c3 W)
  have z0 : (E != 0) = true := by simp [hz]
  clear hf hA a1 a2 a3 hB c1 c2 c3 hz
  have HT := Lib.hid ht
  clear ht
  have HM := Lib.hid hm
  clear hm
  go_enter Try.func6, Try.ntmps6
  go_wp2_with fail
  obtain ⟨w1, hw1⟩ : ∃ V, ((((w.alloc (.cells #[.int .i64 ex, .int .i64 ey, .int .i64 ez] 27)).alloc (.cells #[.int .i64 tx, .int .i64 ty, .int .i64 tz] 27)).alloc (.cells #[.int .i64 N, .int .i64 Q] 39)).alloc (.cells #[.int .i64 du, .int .i64 dv, .int .i64 dw] 27)) = V := ⟨_, rfl⟩
  obtain ⟨hB_, kp, kq, ko, ky⟩ := boxes4 _ _ _ _ _ hw1
  rw [hw1]
  clear hw1
  have HB := Lib.hid hB_
  clear hB_
  have p0 := (cells3 kp).1
  have p1 := (cells3 kp).2.1
  have p2 := (cells3 kp).2.2
  have lp := block_lt p0
  have q0 := (cells3 kq).1
  have q1 := (cells3 kq).2.1
  have q2 := (cells3 kq).2.2
  have lq := block_lt q0
  have o0 := (two_cells ko).1
  have o1 := (two_cells ko).2.1
  have lo := block_lt o0
  have y0 := (cells3 ky).1
  have y1 := (cells3 ky).2.1
  have y2 := (cells3 ky).2.2
  have ly := block_lt y0
  replace HT := Lib.hid (HT.out.below HB.out)
  replace HM := Lib.hid (HM.out.below HB.out)
  with_reducible refine (head10_any _).mono ?_
  rintro e_ w2 ⟨rfl, hb⟩
  replace HB := Lib.hid (on_below HB.out hb)
  replace HT := Lib.hid (HT.out.below hb)
  replace HM := Lib.hid (HM.out.below hb)
  replace p0 := keepc hb p0
  replace p1 := keepc hb p1
  replace p2 := keepc hb p2
  replace q0 := keepc hb q0
  replace q1 := keepc hb q1
  replace q2 := keepc hb q2
  replace o0 := keepc hb o0
  replace o1 := keepc hb o1
  replace y0 := keepc hb y0
  replace y1 := keepc hb y1
  replace y2 := keepc hb y2
  replace kp := blk_on kp hb
  replace kq := blk_on kq hb
  replace ko := blk_on ko hb
  replace ky := blk_on ky hb
  replace lp := Nat.lt_of_lt_of_le lp hb.size
  replace lq := Nat.lt_of_lt_of_le lq hb.size
  replace lo := Nat.lt_of_lt_of_le lo hb.size
  replace ly := Nat.lt_of_lt_of_le ly hb.size
  clear hb
  go_wp2_with fail
  with_reducible refine (HF.out _ HM.out).mono ?_
  rintro e_ w3 ⟨rfl, hb⟩
  replace HB := Lib.hid (on_below HB.out hb)
  replace HT := Lib.hid (HT.out.below hb)
  replace HM := Lib.hid (HM.out.below hb)
  replace p0 := keepc hb p0
  replace p1 := keepc hb p1
  replace p2 := keepc hb p2
  replace q0 := keepc hb q0
  replace q1 := keepc hb q1
  replace q2 := keepc hb q2
  replace o0 := keepc hb o0
  replace o1 := keepc hb o1
  replace y0 := keepc hb y0
  replace y1 := keepc hb y1
  replace y2 := keepc hb y2
  replace kp := blk_on kp hb
  replace kq := blk_on kq hb
  replace ko := blk_on ko hb
  replace ky := blk_on ky hb
  replace lp := Nat.lt_of_lt_of_le lp hb.size
  replace lq := Nat.lt_of_lt_of_le lq hb.size
  replace lo := Nat.lt_of_lt_of_le lo hb.size
  replace ly := Nat.lt_of_lt_of_le ly hb.size
  clear hb
  go_wp2_with fail
  with_reducible refine (CA.out _).mono ?_
  rintro e_ w4 ⟨rfl, hb⟩
  replace HB := Lib.hid (on_below HB.out hb)
  replace HT := Lib.hid (HT.out.below hb)
  replace HM := Lib.hid (HM.out.below hb)
  replace p0 := keepc hb p0
  replace p1 := keepc hb p1
  replace p2 := keepc hb p2
  replace q0 := keepc hb q0
  replace q1 := keepc hb q1
  replace q2 := keepc hb q2
  replace o0 := keepc hb o0
  replace o1 := keepc hb o1
  replace y0 := keepc hb y0
  replace y1 := keepc hb y1
  replace y2 := keepc hb y2
  replace kp := blk_on kp hb
  replace kq := blk_on kq hb
  replace ko := blk_on ko hb
  replace ky := blk_on ky hb
  replace lp := Nat.lt_of_lt_of_le lp hb.size
  replace lq := Nat.lt_of_lt_of_le lq hb.size
  replace lo := Nat.lt_of_lt_of_le lo hb.size
  replace ly := Nat.lt_of_lt_of_le ly hb.size
  clear hb
  go_wp2_with fail
  have a0 : World.cell? (w4.alloc (.cells #[.int .i64 ux, .int .i64 uy, .int .i64 uz] 27)) ⟨w4.heap.size, 0, none⟩ = some (.int .i64 ux) := by simp [go_sem]
  have a1 : World.cell? (w4.alloc (.cells #[.int .i64 ux, .int .i64 uy, .int .i64 uz] 27)) ⟨w4.heap.size, 1, none⟩ = some (.int .i64 uy) := by simp [go_sem]
  have a2 : World.cell? (w4.alloc (.cells #[.int .i64 ux, .int .i64 uy, .int .i64 uz] 27)) ⟨w4.heap.size, 2, none⟩ = some (.int .i64 uz) := by simp [go_sem]
  have la : w4.heap.size < (w4.alloc (.cells #[.int .i64 ux, .int .i64 uy, .int .i64 uz] 27)).heap.size := by simp
  have hb : Below w4.heap.size w4 (w4.alloc (.cells #[.int .i64 ux, .int .i64 uy, .int .i64 uz] 27)) := below_new _ _
  generalize w4.alloc (.cells #[.int .i64 ux, .int .i64 uy, .int .i64 uz] 27) = w5 at *
  replace HB := Lib.hid (on_below HB.out hb)
  replace HT := Lib.hid (HT.out.below hb)
  replace HM := Lib.hid (HM.out.below hb)
  replace p0 := keepc hb p0
  replace p1 := keepc hb p1
  replace p2 := keepc hb p2
  replace q0 := keepc hb q0
  replace q1 := keepc hb q1
  replace q2 := keepc hb q2
  replace o0 := keepc hb o0
  replace o1 := keepc hb o1
  replace y0 := keepc hb y0
  replace y1 := keepc hb y1
  replace y2 := keepc hb y2
  replace kp := blk_on kp hb
  replace kq := blk_on kq hb
  replace ko := blk_on ko hb
  replace ky := blk_on ky hb
  replace lp := Nat.lt_of_lt_of_le lp hb.size
  replace lq := Nat.lt_of_lt_of_le lq hb.size
  replace lo := Nat.lt_of_lt_of_le lo hb.size
  replace ly := Nat.lt_of_lt_of_le ly hb.size
  clear hb
  generalize w4.heap.size = ga at *
  with_reducible refine (CB.out _).mono ?_
  rintro e_ w6 ⟨rfl, hb⟩
  replace HB := Lib.hid (on_below HB.out hb)
  replace HT := Lib.hid (HT.out.below hb)
  replace HM := Lib.hid (HM.out.below hb)
  replace p0 := keepc hb p0
  replace p1 := keepc hb p1
  replace p2 := keepc hb p2
  replace q0 := keepc hb q0
  replace q1 := keepc hb q1
  replace q2 := keepc hb q2
  replace o0 := keepc hb o0
  replace o1 := keepc hb o1
  replace y0 := keepc hb y0
  replace y1 := keepc hb y1
  replace y2 := keepc hb y2
  replace a0 := keepc hb a0
  replace a1 := keepc hb a1
  replace a2 := keepc hb a2
  replace kp := blk_on kp hb
  replace kq := blk_on kq hb
  replace ko := blk_on ko hb
  replace ky := blk_on ky hb
  replace lp := Nat.lt_of_lt_of_le lp hb.size
  replace lq := Nat.lt_of_lt_of_le lq hb.size
  replace lo := Nat.lt_of_lt_of_le lo hb.size
  replace ly := Nat.lt_of_lt_of_le ly hb.size
  replace la := Nat.lt_of_lt_of_le la hb.size
  clear hb
  go_wp2_with fail
  have c0 : World.cell? (w6.alloc (.cells #[.int .i64 vx, .int .i64 vy, .int .i64 vz] 27)) ⟨w6.heap.size, 0, none⟩ = some (.int .i64 vx) := by simp [go_sem]
  have c1 : World.cell? (w6.alloc (.cells #[.int .i64 vx, .int .i64 vy, .int .i64 vz] 27)) ⟨w6.heap.size, 1, none⟩ = some (.int .i64 vy) := by simp [go_sem]
  have c2 : World.cell? (w6.alloc (.cells #[.int .i64 vx, .int .i64 vy, .int .i64 vz] 27)) ⟨w6.heap.size, 2, none⟩ = some (.int .i64 vz) := by simp [go_sem]
  have lc : w6.heap.size < (w6.alloc (.cells #[.int .i64 vx, .int .i64 vy, .int .i64 vz] 27)).heap.size := by simp
  have hb : Below w6.heap.size w6 (w6.alloc (.cells #[.int .i64 vx, .int .i64 vy, .int .i64 vz] 27)) := below_new _ _
  generalize w6.alloc (.cells #[.int .i64 vx, .int .i64 vy, .int .i64 vz] 27) = w7 at *
  replace HB := Lib.hid (on_below HB.out hb)
  replace HT := Lib.hid (HT.out.below hb)
  replace HM := Lib.hid (HM.out.below hb)
  replace p0 := keepc hb p0
  replace p1 := keepc hb p1
  replace p2 := keepc hb p2
  replace q0 := keepc hb q0
  replace q1 := keepc hb q1
  replace q2 := keepc hb q2
  replace o0 := keepc hb o0
  replace o1 := keepc hb o1
  replace y0 := keepc hb y0
  replace y1 := keepc hb y1
  replace y2 := keepc hb y2
  replace a0 := keepc hb a0
  replace a1 := keepc hb a1
  replace a2 := keepc hb a2
  replace kp := blk_on kp hb
  replace kq := blk_on kq hb
  replace ko := blk_on ko hb
  replace ky := blk_on ky hb
  replace lp := Nat.lt_of_lt_of_le lp hb.size
  replace lq := Nat.lt_of_lt_of_le lq hb.size
  replace lo := Nat.lt_of_lt_of_le lo hb.size
  replace ly := Nat.lt_of_lt_of_le ly hb.size
  replace la := Nat.lt_of_lt_of_le la hb.size
  clear hb
  generalize w6.heap.size = gc at *
  go_ret
  exact ⟨rfl, HB.out⟩
set_option maxRecDepth 100000 in
set_option maxHeartbeats 4000000 in
theorem mov_2 (tA : Option Addr) (tC : Nat) (t : List Q4) (m ex ey ez tx ty tz N Q : Int) (bA : Option Addr) (bC : Nat) (b : List Bv) (du dv dw : Int) (h4 : t.length ≤ 9223372036854775807) (h5 : b.length ≤ 9223372036854775807) (h6 : ∀ k, k < b.length → (gdB b k).xs.length ≤ 9223372036854775807) (iN : I64 N) (iQ : I64 Q) (hf : FewS t.length b) (E G ux uy uz vx vy vz : Int) (hA : sE (vv ex ey ez) (vv du dv dw) (vv (ex + du) (ey + dv) (ez + dw)) = E) (a1 : kp E (ex + du) = ux) (a2 : kp E (ey + dv) = uy) (a3 : kp E (ez + dw) = uz) (hB : sE (vv tx ty tz) (vv du dv dw) (vv (tx + du) (ty + dv) (tz + dw)) = G) (c1 : kp G (tx + du) = vx) (c2 : kp G (ty + dv) = vy) (c3 : kp G (tz + dw) = vz) (he : E = 0) (hz : G ≠ 0) (w : World) (ht : S4 w tA t) (hm : BdS w bA b) :
    Calls Try.prog 6 #[.slice tA t.length tC, .int .i64 m, .agg #[.int .i64 ex, .int .i64 ey, .int .i64 ez], .agg #[.int .i64 tx, .int .i64 ty, .int .i64 tz], .agg #[.int .i64 N, .int .i64 Q], .slice bA b.length bC, .agg #[.int .i64 du, .int .i64 dv, .int .i64 dw]] w fun e_ w' => e_ = .returned (.bool true) ∧ Below w.heap.size w w' := by
  subst he
  have HF := Lib.hid (fun W (h : BdS W bA b) => few10_is tA tC t bA bC b h4 h5 h6 true (by simp [hf]) W h)
  have CA := Lib.hid (fun W => add_is ex ey ez du dv dw ux uy uz 0 hA a1 a2 a3 W)
  have CB := Lib.hid (fun W => add_is tx ty tz du dv dw vx vy vz G hB c1 c2 c3 W)
  have z0 : (G != 0) = true := by simp [hz]
  clear hf hA a1 a2 a3 hB c1 c2 c3 hz
  have HT := Lib.hid ht
  clear ht
  have HM := Lib.hid hm
  clear hm
  go_enter Try.func6, Try.ntmps6
  go_wp2_with fail
  obtain ⟨w1, hw1⟩ : ∃ V, ((((w.alloc (.cells #[.int .i64 ex, .int .i64 ey, .int .i64 ez] 27)).alloc (.cells #[.int .i64 tx, .int .i64 ty, .int .i64 tz] 27)).alloc (.cells #[.int .i64 N, .int .i64 Q] 39)).alloc (.cells #[.int .i64 du, .int .i64 dv, .int .i64 dw] 27)) = V := ⟨_, rfl⟩
  obtain ⟨hB_, kp, kq, ko, ky⟩ := boxes4 _ _ _ _ _ hw1
  rw [hw1]
  clear hw1
  have HB := Lib.hid hB_
  clear hB_
  have p0 := (cells3 kp).1
  have p1 := (cells3 kp).2.1
  have p2 := (cells3 kp).2.2
  have lp := block_lt p0
  have q0 := (cells3 kq).1
  have q1 := (cells3 kq).2.1
  have q2 := (cells3 kq).2.2
  have lq := block_lt q0
  have o0 := (two_cells ko).1
  have o1 := (two_cells ko).2.1
  have lo := block_lt o0
  have y0 := (cells3 ky).1
  have y1 := (cells3 ky).2.1
  have y2 := (cells3 ky).2.2
  have ly := block_lt y0
  replace HT := Lib.hid (HT.out.below HB.out)
  replace HM := Lib.hid (HM.out.below HB.out)
  with_reducible refine (head10_any _).mono ?_
  rintro e_ w2 ⟨rfl, hb⟩
  replace HB := Lib.hid (on_below HB.out hb)
  replace HT := Lib.hid (HT.out.below hb)
  replace HM := Lib.hid (HM.out.below hb)
  replace p0 := keepc hb p0
  replace p1 := keepc hb p1
  replace p2 := keepc hb p2
  replace q0 := keepc hb q0
  replace q1 := keepc hb q1
  replace q2 := keepc hb q2
  replace o0 := keepc hb o0
  replace o1 := keepc hb o1
  replace y0 := keepc hb y0
  replace y1 := keepc hb y1
  replace y2 := keepc hb y2
  replace kp := blk_on kp hb
  replace kq := blk_on kq hb
  replace ko := blk_on ko hb
  replace ky := blk_on ky hb
  replace lp := Nat.lt_of_lt_of_le lp hb.size
  replace lq := Nat.lt_of_lt_of_le lq hb.size
  replace lo := Nat.lt_of_lt_of_le lo hb.size
  replace ly := Nat.lt_of_lt_of_le ly hb.size
  clear hb
  go_wp2_with fail
  with_reducible refine (HF.out _ HM.out).mono ?_
  rintro e_ w3 ⟨rfl, hb⟩
  replace HB := Lib.hid (on_below HB.out hb)
  replace HT := Lib.hid (HT.out.below hb)
  replace HM := Lib.hid (HM.out.below hb)
  replace p0 := keepc hb p0
  replace p1 := keepc hb p1
  replace p2 := keepc hb p2
  replace q0 := keepc hb q0
  replace q1 := keepc hb q1
  replace q2 := keepc hb q2
  replace o0 := keepc hb o0
  replace o1 := keepc hb o1
  replace y0 := keepc hb y0
  replace y1 := keepc hb y1
  replace y2 := keepc hb y2
  replace kp := blk_on kp hb
  replace kq := blk_on kq hb
  replace ko := blk_on ko hb
  replace ky := blk_on ky hb
  replace lp := Nat.lt_of_lt_of_le lp hb.size
  replace lq := Nat.lt_of_lt_of_le lq hb.size
  replace lo := Nat.lt_of_lt_of_le lo hb.size
  replace ly := Nat.lt_of_lt_of_le ly hb.size
  clear hb
  go_wp2_with fail
  with_reducible refine (CA.out _).mono ?_
  rintro e_ w4 ⟨rfl, hb⟩
  replace HB := Lib.hid (on_below HB.out hb)
  replace HT := Lib.hid (HT.out.below hb)
  replace HM := Lib.hid (HM.out.below hb)
  replace p0 := keepc hb p0
  replace p1 := keepc hb p1
  replace p2 := keepc hb p2
  replace q0 := keepc hb q0
  replace q1 := keepc hb q1
  replace q2 := keepc hb q2
  replace o0 := keepc hb o0
  replace o1 := keepc hb o1
  replace y0 := keepc hb y0
  replace y1 := keepc hb y1
  replace y2 := keepc hb y2
  replace kp := blk_on kp hb
  replace kq := blk_on kq hb
  replace ko := blk_on ko hb
  replace ky := blk_on ky hb
  replace lp := Nat.lt_of_lt_of_le lp hb.size
  replace lq := Nat.lt_of_lt_of_le lq hb.size
  replace lo := Nat.lt_of_lt_of_le lo hb.size
  replace ly := Nat.lt_of_lt_of_le ly hb.size
  clear hb
  go_wp2_with fail
  have a0 : World.cell? (w4.alloc (.cells #[.int .i64 ux, .int .i64 uy, .int .i64 uz] 27)) ⟨w4.heap.size, 0, none⟩ = some (.int .i64 ux) := by simp [go_sem]
  have a1 : World.cell? (w4.alloc (.cells #[.int .i64 ux, .int .i64 uy, .int .i64 uz] 27)) ⟨w4.heap.size, 1, none⟩ = some (.int .i64 uy) := by simp [go_sem]
  have a2 : World.cell? (w4.alloc (.cells #[.int .i64 ux, .int .i64 uy, .int .i64 uz] 27)) ⟨w4.heap.size, 2, none⟩ = some (.int .i64 uz) := by simp [go_sem]
  have la : w4.heap.size < (w4.alloc (.cells #[.int .i64 ux, .int .i64 uy, .int .i64 uz] 27)).heap.size := by simp
  have hb : Below w4.heap.size w4 (w4.alloc (.cells #[.int .i64 ux, .int .i64 uy, .int .i64 uz] 27)) := below_new _ _
  generalize w4.alloc (.cells #[.int .i64 ux, .int .i64 uy, .int .i64 uz] 27) = w5 at *
  replace HB := Lib.hid (on_below HB.out hb)
  replace HT := Lib.hid (HT.out.below hb)
  replace HM := Lib.hid (HM.out.below hb)
  replace p0 := keepc hb p0
  replace p1 := keepc hb p1
  replace p2 := keepc hb p2
  replace q0 := keepc hb q0
  replace q1 := keepc hb q1
  replace q2 := keepc hb q2
  replace o0 := keepc hb o0
  replace o1 := keepc hb o1
  replace y0 := keepc hb y0
  replace y1 := keepc hb y1
  replace y2 := keepc hb y2
  replace kp := blk_on kp hb
  replace kq := blk_on kq hb
  replace ko := blk_on ko hb
  replace ky := blk_on ky hb
  replace lp := Nat.lt_of_lt_of_le lp hb.size
  replace lq := Nat.lt_of_lt_of_le lq hb.size
  replace lo := Nat.lt_of_lt_of_le lo hb.size
  replace ly := Nat.lt_of_lt_of_le ly hb.size
  clear hb
  generalize w4.heap.size = ga at *
  with_reducible refine (CB.out _).mono ?_
  rintro e_ w6 ⟨rfl, hb⟩
  replace HB := Lib.hid (on_below HB.out hb)
  replace HT := Lib.hid (HT.out.below hb)
  replace HM := Lib.hid (HM.out.below hb)
  replace p0 := keepc hb p0
  replace p1 := keepc hb p1
  replace p2 := keepc hb p2
  replace q0 := keepc hb q0
  replace q1 := keepc hb q1
  replace q2 := keepc hb q2
  replace o0 := keepc hb o0
  replace o1 := keepc hb o1
  replace y0 := keepc hb y0
  replace y1 := keepc hb y1
  replace y2 := keepc hb y2
  replace a0 := keepc hb a0
  replace a1 := keepc hb a1
  replace a2 := keepc hb a2
  replace kp := blk_on kp hb
  replace kq := blk_on kq hb
  replace ko := blk_on ko hb
  replace ky := blk_on ky hb
  replace lp := Nat.lt_of_lt_of_le lp hb.size
  replace lq := Nat.lt_of_lt_of_le lq hb.size
  replace lo := Nat.lt_of_lt_of_le lo hb.size
  replace ly := Nat.lt_of_lt_of_le ly hb.size
  replace la := Nat.lt_of_lt_of_le la hb.size
  clear hb
  go_wp2_with fail
  have c0 : World.cell? (w6.alloc (.cells #[.int .i64 vx, .int .i64 vy, .int .i64 vz] 27)) ⟨w6.heap.size, 0, none⟩ = some (.int .i64 vx) := by simp [go_sem]
  have c1 : World.cell? (w6.alloc (.cells #[.int .i64 vx, .int .i64 vy, .int .i64 vz] 27)) ⟨w6.heap.size, 1, none⟩ = some (.int .i64 vy) := by simp [go_sem]
  have c2 : World.cell? (w6.alloc (.cells #[.int .i64 vx, .int .i64 vy, .int .i64 vz] 27)) ⟨w6.heap.size, 2, none⟩ = some (.int .i64 vz) := by simp [go_sem]
  have lc : w6.heap.size < (w6.alloc (.cells #[.int .i64 vx, .int .i64 vy, .int .i64 vz] 27)).heap.size := by simp
  have hb : Below w6.heap.size w6 (w6.alloc (.cells #[.int .i64 vx, .int .i64 vy, .int .i64 vz] 27)) := below_new _ _
  generalize w6.alloc (.cells #[.int .i64 vx, .int .i64 vy, .int .i64 vz] 27) = w7 at *
  replace HB := Lib.hid (on_below HB.out hb)
  replace HT := Lib.hid (HT.out.below hb)
  replace HM := Lib.hid (HM.out.below hb)
  replace p0 := keepc hb p0
  replace p1 := keepc hb p1
  replace p2 := keepc hb p2
  replace q0 := keepc hb q0
  replace q1 := keepc hb q1
  replace q2 := keepc hb q2
  replace o0 := keepc hb o0
  replace o1 := keepc hb o1
  replace y0 := keepc hb y0
  replace y1 := keepc hb y1
  replace y2 := keepc hb y2
  replace a0 := keepc hb a0
  replace a1 := keepc hb a1
  replace a2 := keepc hb a2
  replace kp := blk_on kp hb
  replace kq := blk_on kq hb
  replace ko := blk_on ko hb
  replace ky := blk_on ky hb
  replace lp := Nat.lt_of_lt_of_le lp hb.size
  replace lq := Nat.lt_of_lt_of_le lq hb.size
  replace lo := Nat.lt_of_lt_of_le lo hb.size
  replace ly := Nat.lt_of_lt_of_le ly hb.size
  replace la := Nat.lt_of_lt_of_le la hb.size
  clear hb
  generalize w6.heap.size = gc at *
  go_ret
  exact ⟨rfl, HB.out⟩
set_option maxRecDepth 100000 in
set_option maxHeartbeats 4000000 in
theorem mov_3 (tA : Option Addr) (tC : Nat) (t : List Q4) (m ex ey ez tx ty tz N Q : Int) (bA : Option Addr) (bC : Nat) (b : List Bv) (du dv dw : Int) (h4 : t.length ≤ 9223372036854775807) (h5 : b.length ≤ 9223372036854775807) (h6 : ∀ k, k < b.length → (gdB b k).xs.length ≤ 9223372036854775807) (iN : I64 N) (iQ : I64 Q) (r1 r3 : Bool) (E1 E3 : Int) (h1 : ShdR t m ex ey ez b r1 E1) (h3 : GlrR t m ex ey ez tx ty tz N Q b r3 E3) (hf : FewS t.length b) (hv : vv du dv dw = true) (hA : sE (vv ex ey ez) (vv du dv dw) (vv (ex + du) (ey + dv) (ez + dw)) = 0) (hB : sE (vv tx ty tz) (vv du dv dw) (vv (tx + du) (ty + dv) (tz + dw)) = 0) (w : World) (ht : S4 w tA t) (hm : BdS w bA b) :
    Calls Try.prog 6 #[.slice tA t.length tC, .int .i64 m, .agg #[.int .i64 ex, .int .i64 ey, .int .i64 ez], .agg #[.int .i64 tx, .int .i64 ty, .int .i64 tz], .agg #[.int .i64 N, .int .i64 Q], .slice bA b.length bC, .agg #[.int .i64 du, .int .i64 dv, .int .i64 dw]] w fun e_ w' => e_ = .returned (.bool true) ∧ Below w.heap.size w w' := by
  have HF := Lib.hid (fun W (h : BdS W bA b) => few10_is tA tC t bA bC b h4 h5 h6 true (by simp [hf]) W h)
  have CA := Lib.hid (fun W => add_is ex ey ez du dv dw (ex + du) (ey + dv) (ez + dw) 0 hA rfl rfl rfl W)
  have CB := Lib.hid (fun W => add_is tx ty tz du dv dw (tx + du) (ty + dv) (tz + dw) 0 hB rfl rfl rfl W)
  have HY := Lib.hid hv
  have HBS := Lib.hid (fews_bsm hf)
  have lb0 := hf.2.1
  have lt0 := hf.1
  have C1 := Lib.hid (fun W (a : S4 W tA t) (c : BdS W bA b) => shd_is tA tC t m ex ey ez bA bC b h4 h5 (fun _ => fews_bsm hf) r1 E1 h1 W a c)
  have C3 := Lib.hid (fun W (a : S4 W tA t) (c : BdS W bA b) => glr_is tA tC t m ex ey ez tx ty tz N Q bA bC b h4 h5 (fun _ => fews_bsm hf) iN iQ r3 E3 h3 W a c)
  have S1 := Lib.hid h1
  have S3 := Lib.hid h3
  have HIN := Lib.hid iN
  have HIQ := Lib.hid iQ
  obtain ⟨i1, hi1, hy0, hy1, hy2⟩ := info_of (show (Try.prog.info? 42).map (fun i => (i.zero, i.size, i.bytes)) = some (some (.agg #[.slice none 0 0, .int .i64 0, .int .i64 0]), 3, 40) by kernel_rfl)
  clear hf hv hA hB h1 h3 h4 h5 h6 iN iQ
  have HT := Lib.hid ht
  clear ht
  have HM := Lib.hid hm
  clear hm
  go_enter Try.func6, Try.ntmps6
  go_wp2_with fail
  obtain ⟨w1, hw1⟩ : ∃ V, ((((w.alloc (.cells #[.int .i64 ex, .int .i64 ey, .int .i64 ez] 27)).alloc (.cells #[.int .i64 tx, .int .i64 ty, .int .i64 tz] 27)).alloc (.cells #[.int .i64 N, .int .i64 Q] 39)).alloc (.cells #[.int .i64 du, .int .i64 dv, .int .i64 dw] 27)) = V := ⟨_, rfl⟩
  obtain ⟨hB_, kp, kq, ko, ky⟩ := boxes4 _ _ _ _ _ hw1
  rw [hw1]
  clear hw1
  have HB := Lib.hid hB_
  clear hB_
  have p0 := (cells3 kp).1
  have p1 := (cells3 kp).2.1
  have p2 := (cells3 kp).2.2
  have lp := block_lt p0
  have q0 := (cells3 kq).1
  have q1 := (cells3 kq).2.1
  have q2 := (cells3 kq).2.2
  have lq := block_lt q0
  have o0 := (two_cells ko).1
  have o1 := (two_cells ko).2.1
  have lo := block_lt o0
  have y0 := (cells3 ky).1
  have y1 := (cells3 ky).2.1
  have y2 := (cells3 ky).2.2
  have ly := block_lt y0
  replace HT := Lib.hid (HT.out.below HB.out)
  replace HM := Lib.hid (HM.out.below HB.out)
  with_reducible refine (head10_any _).mono ?_
  rintro e_ w2 ⟨rfl, hb⟩
  replace HB := Lib.hid (on_below HB.out hb)
  replace HT := Lib.hid (HT.out.below hb)
  replace HM := Lib.hid (HM.out.below hb)
  replace p0 := keepc hb p0
  replace p1 := keepc hb p1
  replace p2 := keepc hb p2
  replace q0 := keepc hb q0
  replace q1 := keepc hb q1
  replace q2 := keepc hb q2
  replace o0 := keepc hb o0
  replace o1 := keepc hb o1
  replace y0 := keepc hb y0
  replace y1 := keepc hb y1
  replace y2 := keepc hb y2
  replace kp := blk_on kp hb
  replace kq := blk_on kq hb
  replace ko := blk_on ko hb
  replace ky := blk_on ky hb
  replace lp := Nat.lt_of_lt_of_le lp hb.size
  replace lq := Nat.lt_of_lt_of_le lq hb.size
  replace lo := Nat.lt_of_lt_of_le lo hb.size
  replace ly := Nat.lt_of_lt_of_le ly hb.size
  clear hb
  go_wp2_with fail
  with_reducible refine (HF.out _ HM.out).mono ?_
  rintro e_ w3 ⟨rfl, hb⟩
  replace HB := Lib.hid (on_below HB.out hb)
  replace HT := Lib.hid (HT.out.below hb)
  replace HM := Lib.hid (HM.out.below hb)
  replace p0 := keepc hb p0
  replace p1 := keepc hb p1
  replace p2 := keepc hb p2
  replace q0 := keepc hb q0
  replace q1 := keepc hb q1
  replace q2 := keepc hb q2
  replace o0 := keepc hb o0
  replace o1 := keepc hb o1
  replace y0 := keepc hb y0
  replace y1 := keepc hb y1
  replace y2 := keepc hb y2
  replace kp := blk_on kp hb
  replace kq := blk_on kq hb
  replace ko := blk_on ko hb
  replace ky := blk_on ky hb
  replace lp := Nat.lt_of_lt_of_le lp hb.size
  replace lq := Nat.lt_of_lt_of_le lq hb.size
  replace lo := Nat.lt_of_lt_of_le lo hb.size
  replace ly := Nat.lt_of_lt_of_le ly hb.size
  clear hb
  go_wp2_with fail
  with_reducible refine (CA.out _).mono ?_
  rintro e_ w4 ⟨rfl, hb⟩
  replace HB := Lib.hid (on_below HB.out hb)
  replace HT := Lib.hid (HT.out.below hb)
  replace HM := Lib.hid (HM.out.below hb)
  replace p0 := keepc hb p0
  replace p1 := keepc hb p1
  replace p2 := keepc hb p2
  replace q0 := keepc hb q0
  replace q1 := keepc hb q1
  replace q2 := keepc hb q2
  replace o0 := keepc hb o0
  replace o1 := keepc hb o1
  replace y0 := keepc hb y0
  replace y1 := keepc hb y1
  replace y2 := keepc hb y2
  replace kp := blk_on kp hb
  replace kq := blk_on kq hb
  replace ko := blk_on ko hb
  replace ky := blk_on ky hb
  replace lp := Nat.lt_of_lt_of_le lp hb.size
  replace lq := Nat.lt_of_lt_of_le lq hb.size
  replace lo := Nat.lt_of_lt_of_le lo hb.size
  replace ly := Nat.lt_of_lt_of_le ly hb.size
  clear hb
  go_wp2_with fail
  have a0 : World.cell? (w4.alloc (.cells #[.int .i64 ((ex + du)), .int .i64 ((ey + dv)), .int .i64 ((ez + dw))] 27)) ⟨w4.heap.size, 0, none⟩ = some (.int .i64 ((ex + du))) := by simp [go_sem]
  have a1 : World.cell? (w4.alloc (.cells #[.int .i64 ((ex + du)), .int .i64 ((ey + dv)), .int .i64 ((ez + dw))] 27)) ⟨w4.heap.size, 1, none⟩ = some (.int .i64 ((ey + dv))) := by simp [go_sem]
  have a2 : World.cell? (w4.alloc (.cells #[.int .i64 ((ex + du)), .int .i64 ((ey + dv)), .int .i64 ((ez + dw))] 27)) ⟨w4.heap.size, 2, none⟩ = some (.int .i64 ((ez + dw))) := by simp [go_sem]
  have la : w4.heap.size < (w4.alloc (.cells #[.int .i64 ((ex + du)), .int .i64 ((ey + dv)), .int .i64 ((ez + dw))] 27)).heap.size := by simp
  have hb : Below w4.heap.size w4 (w4.alloc (.cells #[.int .i64 ((ex + du)), .int .i64 ((ey + dv)), .int .i64 ((ez + dw))] 27)) := below_new _ _
  generalize w4.alloc (.cells #[.int .i64 ((ex + du)), .int .i64 ((ey + dv)), .int .i64 ((ez + dw))] 27) = w5 at *
  replace HB := Lib.hid (on_below HB.out hb)
  replace HT := Lib.hid (HT.out.below hb)
  replace HM := Lib.hid (HM.out.below hb)
  replace p0 := keepc hb p0
  replace p1 := keepc hb p1
  replace p2 := keepc hb p2
  replace q0 := keepc hb q0
  replace q1 := keepc hb q1
  replace q2 := keepc hb q2
  replace o0 := keepc hb o0
  replace o1 := keepc hb o1
  replace y0 := keepc hb y0
  replace y1 := keepc hb y1
  replace y2 := keepc hb y2
  replace kp := blk_on kp hb
  replace kq := blk_on kq hb
  replace ko := blk_on ko hb
  replace ky := blk_on ky hb
  replace lp := Nat.lt_of_lt_of_le lp hb.size
  replace lq := Nat.lt_of_lt_of_le lq hb.size
  replace lo := Nat.lt_of_lt_of_le lo hb.size
  replace ly := Nat.lt_of_lt_of_le ly hb.size
  clear hb
  generalize w4.heap.size = ga at *
  with_reducible refine (CB.out _).mono ?_
  rintro e_ w6 ⟨rfl, hb⟩
  replace HB := Lib.hid (on_below HB.out hb)
  replace HT := Lib.hid (HT.out.below hb)
  replace HM := Lib.hid (HM.out.below hb)
  replace p0 := keepc hb p0
  replace p1 := keepc hb p1
  replace p2 := keepc hb p2
  replace q0 := keepc hb q0
  replace q1 := keepc hb q1
  replace q2 := keepc hb q2
  replace o0 := keepc hb o0
  replace o1 := keepc hb o1
  replace y0 := keepc hb y0
  replace y1 := keepc hb y1
  replace y2 := keepc hb y2
  replace a0 := keepc hb a0
  replace a1 := keepc hb a1
  replace a2 := keepc hb a2
  replace kp := blk_on kp hb
  replace kq := blk_on kq hb
  replace ko := blk_on ko hb
  replace ky := blk_on ky hb
  replace lp := Nat.lt_of_lt_of_le lp hb.size
  replace lq := Nat.lt_of_lt_of_le lq hb.size
  replace lo := Nat.lt_of_lt_of_le lo hb.size
  replace ly := Nat.lt_of_lt_of_le ly hb.size
  replace la := Nat.lt_of_lt_of_le la hb.size
  clear hb
  go_wp2_with fail
  have c0 : World.cell? (w6.alloc (.cells #[.int .i64 ((tx + du)), .int .i64 ((ty + dv)), .int .i64 ((tz + dw))] 27)) ⟨w6.heap.size, 0, none⟩ = some (.int .i64 ((tx + du))) := by simp [go_sem]
  have c1 : World.cell? (w6.alloc (.cells #[.int .i64 ((tx + du)), .int .i64 ((ty + dv)), .int .i64 ((tz + dw))] 27)) ⟨w6.heap.size, 1, none⟩ = some (.int .i64 ((ty + dv))) := by simp [go_sem]
  have c2 : World.cell? (w6.alloc (.cells #[.int .i64 ((tx + du)), .int .i64 ((ty + dv)), .int .i64 ((tz + dw))] 27)) ⟨w6.heap.size, 2, none⟩ = some (.int .i64 ((tz + dw))) := by simp [go_sem]
  have lc : w6.heap.size < (w6.alloc (.cells #[.int .i64 ((tx + du)), .int .i64 ((ty + dv)), .int .i64 ((tz + dw))] 27)).heap.size := by simp
  have hb : Below w6.heap.size w6 (w6.alloc (.cells #[.int .i64 ((tx + du)), .int .i64 ((ty + dv)), .int .i64 ((tz + dw))] 27)) := below_new _ _
  generalize w6.alloc (.cells #[.int .i64 ((tx + du)), .int .i64 ((ty + dv)), .int .i64 ((tz + dw))] 27) = w7 at *
  replace HB := Lib.hid (on_below HB.out hb)
  replace HT := Lib.hid (HT.out.below hb)
  replace HM := Lib.hid (HM.out.below hb)
  replace p0 := keepc hb p0
  replace p1 := keepc hb p1
  replace p2 := keepc hb p2
  replace q0 := keepc hb q0
  replace q1 := keepc hb q1
  replace q2 := keepc hb q2
  replace o0 := keepc hb o0
  replace o1 := keepc hb o1
  replace y0 := keepc hb y0
  replace y1 := keepc hb y1
  replace y2 := keepc hb y2
  replace a0 := keepc hb a0
  replace a1 := keepc hb a1
  replace a2 := keepc hb a2
  replace kp := blk_on kp hb
  replace kq := blk_on kq hb
  replace ko := blk_on ko hb
  replace ky := blk_on ky hb
  replace lp := Nat.lt_of_lt_of_le lp hb.size
  replace lq := Nat.lt_of_lt_of_le lq hb.size
  replace lo := Nat.lt_of_lt_of_le lo hb.size
  replace ly := Nat.lt_of_lt_of_le ly hb.size
  replace la := Nat.lt_of_lt_of_le la hb.size
  clear hb
  generalize w6.heap.size = gc at *
  go_wp2_with fail
  go_loopw [20, 21] (fun v i wr => ∃ (k : Nat) (M : List Bv), k ≤ b.length ∧ i = .int .i64 k ∧ Hid (wr.ownsRow w7.heap.size 42 3 v M.length (flt bvc M)) ∧ Hid (Mvd wr v b M k du dv dw) ∧ Below w7.heap.size w7 wr) (fun _ i _ => b.length - (intOf i).toNat)
  case atStart => exact ⟨0, [], Nat.zero_le _, rfl, World.ownsRow_nil _ _ _ _, mvd_0 _ _ _ _ _, Below.refl _ _⟩
  case round =>
    obtain ⟨k, M, hk, rfl, HO, HMV, hW⟩ := hrel
    by_cases hlt : k < b.length
    · have hml : M.length = k := HMV.out.1
      have hm1 : M.length + 1 ≤ maxLen := by unfold maxLen; omega
      have hm2 : (M.length + 1) * 40 ≤ 140737488355328 := by omega
      clear hml
      obtain ⟨w1_, w2_, e5⟩ := kfacts (show b.length ≤ 102 by omega) hlt
      obtain ⟨b0, o0, rfl, e0, e1, e2, hsl⟩ := HM.out.below hW k hlt
      have HSM := Lib.hid (HBS.out k hlt)
      have HST := Lib.hid (fun (W u : World) (o : Obj) (v v2 : Value) (g C : Nat) (h : Mvd W v b M k du dv dw) (own : W.ownsRow w7.heap.size 42 3 v M.length (flt bvc M)) (gr : (W.alloc o).grownBy u v.ownBlock) (hs : SlS W (some ⟨g, 0, none⟩) (mv (gdB b k).xs du dv)) (hb : Bok (mv (gdB b k).xs du dv) ((gdB b k).lo + dw) ((gdB b k).hi + dw)) => mvd_step (C := C) (v' := v2) h own gr hs hb (fun _ => trivial))
      have xy0 := keepc hW y0
      have xy1 := keepc hW y1
      have xy2 := keepc hW y2
      generalize gdB b k = q at *
      obtain ⟨uA, uC, uxs, ul, uh⟩ := q
      dsimp only at e0 e1 e2 hsl HSM HST
      unfold mvb at HST
      dsimp only at HST
      have HW := Lib.hid hW
      have HSL := Lib.hid hsl
      clear hW hsl
      have le0 := block_lt e0
      have ly0 := block_lt xy0
      by_cases hbx : Bok uxs ul uh ∧ Bok (mv uxs du dv) (ul + dw) (uh + dw)
      · obtain ⟨hbk, hbm⟩ := hbx
        have HBK := Lib.hid hbk
        clear hbk
        have HP3 : Hid (0 < (mv uxs du dv).length) := (show 0 < (mv uxs du dv).length by have := hbm.n3; omega)
        have HBM := Lib.hid hbm
        clear hbm
        have hlm := mv_len uxs du dv
        have CM := Lib.hid (fun W (h : SlS W uA uxs) => move_ok uA uC uxs (mv uxs du dv) ul uh du dv dw (ul + dw) (uh + dw) HSM.out HBK.out (vv_iff.1 HY.out) HBM.out rfl rfl rfl W h)
        clear hlm
        generalize mv uxs du dv = ms at *
        generalize ul + dw = l2 at *
        generalize uh + dw = h2 at *
        go_wp2_with fail
        have kp : ∀ {W : World}, Below wr.heap.size wr W → W.cell? ⟨b0, o0 + k * 3, none⟩ = some (.slice uA uxs.length uC) ∧ W.cell? ⟨b0, o0 + k * 3 + 1, none⟩ = some (.int .i64 ul) ∧ W.cell? ⟨b0, o0 + k * 3 + 2, none⟩ = some (.int .i64 uh) ∧ W.cell? ⟨w.heap.size + 1 + 1 + 1, 0, none⟩ = some (.int .i64 du) ∧ W.cell? ⟨w.heap.size + 1 + 1 + 1, 1, none⟩ = some (.int .i64 dv) ∧ W.cell? ⟨w.heap.size + 1 + 1 + 1, 2, none⟩ = some (.int .i64 dw) := fun h => ⟨keepc h e0, keepc h e1, keepc h e2, keepc h xy0, keepc h xy1, keepc h xy2⟩
        refine wp_region_held_drew (S := fun V => V.cell? ⟨b0, o0 + k * 3, none⟩ = some (.slice uA uxs.length uC) ∧ V.cell? ⟨b0, o0 + k * 3 + 1, none⟩ = some (.int .i64 ul) ∧ V.cell? ⟨b0, o0 + k * 3 + 2, none⟩ = some (.int .i64 uh) ∧ V.cell? ⟨w.heap.size + 1 + 1 + 1, 0, none⟩ = some (.int .i64 du) ∧ V.cell? ⟨w.heap.size + 1 + 1 + 1, 1, none⟩ = some (.int .i64 dv) ∧ V.cell? ⟨w.heap.size + 1 + 1 + 1, 2, none⟩ = some (.int .i64 dw)) (by kernel_rfl) (kp (Below.refl _ _).drew) fun HL_ => ?_
        refine wpAnyH_take (i := 0) (v := .slice (some ⟨b0, o0, none⟩) b.length bC) rfl (by kernel_rfl) (by kernel_rfl) (by kernel_rfl) (fun _ _ _ h => h) (Or.inl ⟨by kernel_rfl, ?_⟩) HL_ ?_
        · rintro Wl ⟨s0, s1, s2, s3, s4, s5⟩
          go_simp
        simp only [Act.put, List.getElem_toArray, List.getElem_cons_succ, List.getElem_cons_zero, List.setIfInBounds_toArray, List.set_cons_zero, List.set_cons_succ]
        refine wpAnyH_take (i := 1) (v := .int .i64 k) rfl (by kernel_rfl) (by kernel_rfl) (by kernel_rfl) (fun _ _ _ h => h) (Or.inl ⟨by kernel_rfl, ?_⟩) HL_ ?_
        · rintro Wl ⟨s0, s1, s2, s3, s4, s5⟩
          go_simp
        simp only [Act.put, List.getElem_toArray, List.getElem_cons_succ, List.getElem_cons_zero, List.setIfInBounds_toArray, List.set_cons_zero, List.set_cons_succ]
        refine wpAnyH_take (i := 2) (v := .pointer (some ⟨b0, o0 + k * 3, none⟩)) rfl (by kernel_rfl) (by kernel_rfl) (by kernel_rfl) (fun _ _ _ h => h) (Or.inl ⟨by kernel_rfl, ?_⟩) HL_ ?_
        · rintro Wl ⟨s0, s1, s2, s3, s4, s5⟩
          go_simp
        simp only [Act.put, List.getElem_toArray, List.getElem_cons_succ, List.getElem_cons_zero, List.setIfInBounds_toArray, List.set_cons_zero, List.set_cons_succ]
        refine wpAnyH_take (i := 3) (v := .agg #[.slice uA uxs.length uC, .int .i64 ul, .int .i64 uh]) rfl (by kernel_rfl) (by kernel_rfl) (by kernel_rfl) (fun _ _ _ h => h) (Or.inl ⟨by kernel_rfl, ?_⟩) HL_ ?_
        · rintro Wl ⟨s0, s1, s2, s3, s4, s5⟩
          go_simp
        simp only [Act.put, List.getElem_toArray, List.getElem_cons_succ, List.getElem_cons_zero, List.setIfInBounds_toArray, List.set_cons_zero, List.set_cons_succ]
        refine wpAnyH_take (i := 4) (v := .agg #[.int .i64 du, .int .i64 dv, .int .i64 dw]) rfl (by kernel_rfl) (by kernel_rfl) (by kernel_rfl) (fun _ _ _ h => h) (Or.inl ⟨by kernel_rfl, ?_⟩) HL_ ?_
        · rintro Wl ⟨s0, s1, s2, s3, s4, s5⟩
          go_simp
        simp only [Act.put, List.getElem_toArray, List.getElem_cons_succ, List.getElem_cons_zero, List.setIfInBounds_toArray, List.set_cons_zero, List.set_cons_succ]
        refine wpAnyH_ready (rs := [5, 9]) (by kernel_rfl) (by simp) ?_
        refine AllReadyH.cons (o := _) rfl (fun K hK => ?_) (AllReadyH.cons (o := _) rfl (fun K hK => ?_) AllReadyH.nil)
        · go_simp
          with_reducible refine (CM.out _ (HSL.out.below (Below.refl _ _).drew)).mono ?_
          rintro e_ wc ⟨g, gC, rfl, hgs, hb⟩
          replace hb : Below wr.heap.size wr wc := undrew_b hb
          refine hK.out _ _ (kp hb) fun HL_ => ?_
          clear hK K
          refine wpAnyH_take (i := 6) (v := .tuple #[.agg #[.slice (some ⟨g, 0, none⟩) ms.length gC, .int .i64 l2, .int .i64 h2], .int .i64 0]) rfl (by kernel_rfl) (by kernel_rfl) (by kernel_rfl) (fun _ _ _ h => h) (Or.inl ⟨by kernel_rfl, ?_⟩) HL_ ?_
          · rintro Wl ⟨s0, s1, s2, s3, s4, s5⟩
            go_simp
          simp only [Act.put, List.getElem_toArray, List.getElem_cons_succ, List.getElem_cons_zero, List.setIfInBounds_toArray, List.set_cons_zero, List.set_cons_succ]
          refine wpAnyH_take (i := 7) (v := .agg #[.slice (some ⟨g, 0, none⟩) ms.length gC, .int .i64 l2, .int .i64 h2]) rfl (by kernel_rfl) (by kernel_rfl) (by kernel_rfl) (fun _ _ _ h => h) (Or.inl ⟨by kernel_rfl, ?_⟩) HL_ ?_
          · rintro Wl ⟨s0, s1, s2, s3, s4, s5⟩
            go_simp
          simp only [Act.put, List.getElem_toArray, List.getElem_cons_succ, List.getElem_cons_zero, List.setIfInBounds_toArray, List.set_cons_zero, List.set_cons_succ]
          refine wpAnyH_take (i := 8) (v := .int .i64 0) rfl (by kernel_rfl) (by kernel_rfl) (by kernel_rfl) (fun _ _ _ h => h) (Or.inl ⟨by kernel_rfl, ?_⟩) HL_ ?_
          · rintro Wl ⟨s0, s1, s2, s3, s4, s5⟩
            go_simp
          simp only [Act.put, List.getElem_toArray, List.getElem_cons_succ, List.getElem_cons_zero, List.setIfInBounds_toArray, List.set_cons_zero, List.set_cons_succ]
          refine wpAnyH_ready (rs := [9]) (by kernel_rfl) (by simp) ?_
          refine AllReadyH.cons (o := _) rfl (fun K hK => ?_) AllReadyH.nil
          go_simp
          have hb4 := on_below hb (below_new wc (.cells #[.slice none 0 0, .int .i64 0, .int .i64 0] 42))
          have hz : (wc.alloc (.cells #[.slice none 0 0, .int .i64 0, .int .i64 0] 42)).heap[wc.heap.size]? = some (.cells #[.slice none 0 0, .int .i64 0, .int .i64 0] 42 (0, 0)) := World.alloc_heap_new _ _
          have hg5 : wr.heap.size ≤ wc.heap.size := hb.size
          have hgs4 := hgs.below (below_new wc (.cells #[.slice none 0 0, .int .i64 0, .int .i64 0] 42))
          have hgn : g ≠ wc.heap.size := Nat.ne_of_lt (sls_lt hgs HP3.out)
          clear hgs
          refine hK.out _ _ (kp hb4) fun HL_ => ?_
          clear hK K hb
          generalize wc.alloc (.cells #[.slice none 0 0, .int .i64 0, .int .i64 0] 42) = w4 at *
          generalize wc.heap.size = g5 at *
          obtain ⟨x0, x1, x2⟩ := cells3 hz
          have f0 := froz4 hz 0
          have f1 := froz4 hz 1
          have f2 := froz4 hz 2
          have hb5 : Below wr.heap.size wr (((w4.setCell ⟨g5, 0, none⟩ (.slice (some ⟨g, 0, none⟩) ms.length gC)).setCell ⟨g5, 1, none⟩ (.int .i64 l2)).setCell ⟨g5, 2, none⟩ (.int .i64 h2)) := (((hb4.setCell hg5 _).setCell hg5 _).setCell hg5 _)
          have hz5 : (((w4.setCell ⟨g5, 0, none⟩ (.slice (some ⟨g, 0, none⟩) ms.length gC)).setCell ⟨g5, 1, none⟩ (.int .i64 l2)).setCell ⟨g5, 2, none⟩ (.int .i64 h2)).heap[g5]? = some (.cells #[.slice (some ⟨g, 0, none⟩) ms.length gC, .int .i64 l2, .int .i64 h2] 42 (0, 0)) := (set_cells (set_cells (set_cells hz 0 _) 1 _) 2 _)
          have hgs5 : SlS (((w4.setCell ⟨g5, 0, none⟩ (.slice (some ⟨g, 0, none⟩) ms.length gC)).setCell ⟨g5, 1, none⟩ (.int .i64 l2)).setCell ⟨g5, 2, none⟩ (.int .i64 h2)) (some ⟨g, 0, none⟩) ms := far_set3 hgs4 hgn
          refine wpAnyH_ready (rs := [10]) (by kernel_rfl) (by simp) ?_
          refine AllReadyH.cons (o := _) rfl (fun K hK => ?_) AllReadyH.nil
          go_simp
          refine hK.out _ _ (kp hb5) fun HL_ => ?_
          clear hK K x0 x1 x2 f0 f1 f2 hz hb4 hgs4 hgn
          generalize (((w4.setCell ⟨g5, 0, none⟩ (.slice (some ⟨g, 0, none⟩) ms.length gC)).setCell ⟨g5, 1, none⟩ (.int .i64 l2)).setCell ⟨g5, 2, none⟩ (.int .i64 h2)) = w5 at *
          refine wpAnyH_take (i := 11) (v := .int .i64 0) rfl (by kernel_rfl) (by kernel_rfl) (by kernel_rfl) (fun _ _ _ h => h) (Or.inl ⟨by kernel_rfl, ?_⟩) HL_ ?_
          · rintro Wl ⟨s0, s1, s2, s3, s4, s5⟩
            go_simp
          simp only [Act.put, List.getElem_toArray, List.getElem_cons_succ, List.getElem_cons_zero, List.setIfInBounds_toArray, List.set_cons_zero, List.set_cons_succ]
          refine wpAnyH_done (by kernel_rfl) ?_ _
          obtain ⟨x0, x1, x2⟩ := cells3 hz5
          have lx := block_lt x0
          clear HL_ kp hz5 hg5
          have HOW := Lib.hid (own_below HO.out hb5)
          replace HMV := Lib.hid (mvd_below HMV.out hb5)
          replace HW := Lib.hid (on_below HW.out hb5)
          have HGS := Lib.hid hgs5
          clear hgs5 hb5 HO
          go_wp2_with (at_builtin; refine wpList_app _ rfl (.tmp 75) (.tmp 77) 34 rfl w7.heap.size 42 i1 _ 3 40 Try.underlying34 hi1 hy0 hy1 hy2 rfl (by decide) _ _ _ rfl (HOW.out.alloc _) (some ⟨w5.heap.size, 0, none⟩) 1 1 [.slice (some ⟨g, 0, none⟩) ms.length gC, .int .i64 l2, .int .i64 h2] rfl rfl (src_new w5 #[.slice (some ⟨g, 0, none⟩) ms.length gC, .int .i64 l2, .int .i64 h2] 42) (bvc_one ⟨some ⟨g, 0, none⟩, gC, ms, l2, h2⟩) hm1 hm2 (Nat.le_trans HW.out.size (below_new _ _).size) ?_; intro v1 u1 own1_ gr1; have hb1 := app_bel HW.out HOW.out gr1; have own1 := app_rowB (x := ⟨some ⟨g, 0, none⟩, gC, ms, l2, h2⟩) own1_ rfl; have HMV2 := Lib.hid (HST.out w5 u1 _ _ v1 g gC HMV.out HOW.out gr1 HGS.out HBM.out); clear gr1 own1_)
          go_roundw
          case rel => exact ⟨k + 1, _, hlt, int_of (by first | rfl | exact w1_ | exact w2_), own1, HMV2.out, hb1⟩
          case measure => simp [intOf, w1_, w2_]; clear w1_ w2_; omega
        · go_simp
          have hb : Below wr.heap.size wr (wr.alloc (.cells #[.slice none 0 0, .int .i64 0, .int .i64 0] 42)).drew := (below_new wr (.cells #[.slice none 0 0, .int .i64 0, .int .i64 0] 42)).drew
          have hz : (wr.alloc (.cells #[.slice none 0 0, .int .i64 0, .int .i64 0] 42)).drew.heap[wr.heap.size]? = some (.cells #[.slice none 0 0, .int .i64 0, .int .i64 0] 42 (0, 0)) := World.alloc_heap_new _ _
          refine hK.out _ _ (kp hb) fun HL_ => ?_
          clear hK K
          generalize (wr.alloc (.cells #[.slice none 0 0, .int .i64 0, .int .i64 0] 42)).drew = wc at *
          refine wpAnyH_ready (rs := [5]) (by kernel_rfl) (by simp) ?_
          refine AllReadyH.cons (o := _) rfl (fun K hK => ?_) AllReadyH.nil
          go_simp
          with_reducible refine (CM.out _ (HSL.out.below hb)).mono ?_
          rintro e_ w4 ⟨g, gC, rfl, hgs4, hb4⟩
          replace hz := blk_on hz hb4
          replace hb4 := on_below hb hb4
          have hgn : g ≠ wr.heap.size := sls_ne hgs4 HP3.out hz
          refine hK.out _ _ (kp hb4) fun HL_ => ?_
          clear hK K hb
          obtain ⟨g5, hgg, hg5⟩ : ∃ g, wr.heap.size = g ∧ wr.heap.size ≤ g := ⟨_, rfl, Nat.le_refl _⟩
          rw [hgg] at hz hgn ⊢
          clear hgg
          refine wpAnyH_take (i := 6) (v := .tuple #[.agg #[.slice (some ⟨g, 0, none⟩) ms.length gC, .int .i64 l2, .int .i64 h2], .int .i64 0]) rfl (by kernel_rfl) (by kernel_rfl) (by kernel_rfl) (fun _ _ _ h => h) (Or.inl ⟨by kernel_rfl, ?_⟩) HL_ ?_
          · rintro Wl ⟨s0, s1, s2, s3, s4, s5⟩
            go_simp
          simp only [Act.put, List.getElem_toArray, List.getElem_cons_succ, List.getElem_cons_zero, List.setIfInBounds_toArray, List.set_cons_zero, List.set_cons_succ]
          refine wpAnyH_take (i := 7) (v := .agg #[.slice (some ⟨g, 0, none⟩) ms.length gC, .int .i64 l2, .int .i64 h2]) rfl (by kernel_rfl) (by kernel_rfl) (by kernel_rfl) (fun _ _ _ h => h) (Or.inl ⟨by kernel_rfl, ?_⟩) HL_ ?_
          · rintro Wl ⟨s0, s1, s2, s3, s4, s5⟩
            go_simp
          simp only [Act.put, List.getElem_toArray, List.getElem_cons_succ, List.getElem_cons_zero, List.setIfInBounds_toArray, List.set_cons_zero, List.set_cons_succ]
          refine wpAnyH_take (i := 8) (v := .int .i64 0) rfl (by kernel_rfl) (by kernel_rfl) (by kernel_rfl) (fun _ _ _ h => h) (Or.inl ⟨by kernel_rfl, ?_⟩) HL_ ?_
          · rintro Wl ⟨s0, s1, s2, s3, s4, s5⟩
            go_simp
          simp only [Act.put, List.getElem_toArray, List.getElem_cons_succ, List.getElem_cons_zero, List.setIfInBounds_toArray, List.set_cons_zero, List.set_cons_succ]
          obtain ⟨x0, x1, x2⟩ := cells3 hz
          have f0 := froz4 hz 0
          have f1 := froz4 hz 1
          have f2 := froz4 hz 2
          have hb5 : Below wr.heap.size wr (((w4.setCell ⟨g5, 0, none⟩ (.slice (some ⟨g, 0, none⟩) ms.length gC)).setCell ⟨g5, 1, none⟩ (.int .i64 l2)).setCell ⟨g5, 2, none⟩ (.int .i64 h2)) := (((hb4.setCell hg5 _).setCell hg5 _).setCell hg5 _)
          have hz5 : (((w4.setCell ⟨g5, 0, none⟩ (.slice (some ⟨g, 0, none⟩) ms.length gC)).setCell ⟨g5, 1, none⟩ (.int .i64 l2)).setCell ⟨g5, 2, none⟩ (.int .i64 h2)).heap[g5]? = some (.cells #[.slice (some ⟨g, 0, none⟩) ms.length gC, .int .i64 l2, .int .i64 h2] 42 (0, 0)) := (set_cells (set_cells (set_cells hz 0 _) 1 _) 2 _)
          have hgs5 : SlS (((w4.setCell ⟨g5, 0, none⟩ (.slice (some ⟨g, 0, none⟩) ms.length gC)).setCell ⟨g5, 1, none⟩ (.int .i64 l2)).setCell ⟨g5, 2, none⟩ (.int .i64 h2)) (some ⟨g, 0, none⟩) ms := far_set3 hgs4 hgn
          refine wpAnyH_ready (rs := [10]) (by kernel_rfl) (by simp) ?_
          refine AllReadyH.cons (o := _) rfl (fun K hK => ?_) AllReadyH.nil
          go_simp
          refine hK.out _ _ (kp hb5) fun HL_ => ?_
          clear hK K x0 x1 x2 f0 f1 f2 hz hb4 hgs4 hgn
          generalize (((w4.setCell ⟨g5, 0, none⟩ (.slice (some ⟨g, 0, none⟩) ms.length gC)).setCell ⟨g5, 1, none⟩ (.int .i64 l2)).setCell ⟨g5, 2, none⟩ (.int .i64 h2)) = w5 at *
          refine wpAnyH_take (i := 11) (v := .int .i64 0) rfl (by kernel_rfl) (by kernel_rfl) (by kernel_rfl) (fun _ _ _ h => h) (Or.inl ⟨by kernel_rfl, ?_⟩) HL_ ?_
          · rintro Wl ⟨s0, s1, s2, s3, s4, s5⟩
            go_simp
          simp only [Act.put, List.getElem_toArray, List.getElem_cons_succ, List.getElem_cons_zero, List.setIfInBounds_toArray, List.set_cons_zero, List.set_cons_succ]
          refine wpAnyH_done (by kernel_rfl) ?_ _
          obtain ⟨x0, x1, x2⟩ := cells3 hz5
          have lx := block_lt x0
          clear HL_ kp hz5 hg5
          have HOW := Lib.hid (own_below HO.out hb5)
          replace HMV := Lib.hid (mvd_below HMV.out hb5)
          replace HW := Lib.hid (on_below HW.out hb5)
          have HGS := Lib.hid hgs5
          clear hgs5 hb5 HO
          go_wp2_with (at_builtin; refine wpList_app _ rfl (.tmp 75) (.tmp 77) 34 rfl w7.heap.size 42 i1 _ 3 40 Try.underlying34 hi1 hy0 hy1 hy2 rfl (by decide) _ _ _ rfl (HOW.out.alloc _) (some ⟨w5.heap.size, 0, none⟩) 1 1 [.slice (some ⟨g, 0, none⟩) ms.length gC, .int .i64 l2, .int .i64 h2] rfl rfl (src_new w5 #[.slice (some ⟨g, 0, none⟩) ms.length gC, .int .i64 l2, .int .i64 h2] 42) (bvc_one ⟨some ⟨g, 0, none⟩, gC, ms, l2, h2⟩) hm1 hm2 (Nat.le_trans HW.out.size (below_new _ _).size) ?_; intro v1 u1 own1_ gr1; have hb1 := app_bel HW.out HOW.out gr1; have own1 := app_rowB (x := ⟨some ⟨g, 0, none⟩, gC, ms, l2, h2⟩) own1_ rfl; have HMV2 := Lib.hid (HST.out w5 u1 _ _ v1 g gC HMV.out HOW.out gr1 HGS.out HBM.out); clear gr1 own1_)
          go_roundw
          case rel => exact ⟨k + 1, _, hlt, int_of (by first | rfl | exact w1_ | exact w2_), own1, HMV2.out, hb1⟩
          case measure => simp [intOf, w1_, w2_]; clear w1_ w2_; omega
      · obtain ⟨E_, hE_, hne⟩ : ∃ E_, MvE uxs ul uh du dv dw E_ ∧ E_ ≠ 0 := by
          by_cases hb1 : Bok uxs ul uh
          · exact ⟨3, Or.inr ⟨hb1, vv_iff.1 HY.out, Or.inr ⟨fun h => hbx ⟨hb1, h⟩, rfl⟩⟩, by decide⟩
          · exact ⟨1, Or.inl ⟨fun h => hb1 h.1, rfl⟩, by decide⟩
        have CM := Lib.hid (fun W (h : SlS W uA uxs) => move_no uA uC uxs ul uh du dv dw E_ HSM.out hE_ hne W h)
        have z9 : (E_ != 0) = true := by simp [hne]
        clear hbx hE_ hne
        go_wp2_with fail
        have kp : ∀ {W : World}, Below wr.heap.size wr W → W.cell? ⟨b0, o0 + k * 3, none⟩ = some (.slice uA uxs.length uC) ∧ W.cell? ⟨b0, o0 + k * 3 + 1, none⟩ = some (.int .i64 ul) ∧ W.cell? ⟨b0, o0 + k * 3 + 2, none⟩ = some (.int .i64 uh) ∧ W.cell? ⟨w.heap.size + 1 + 1 + 1, 0, none⟩ = some (.int .i64 du) ∧ W.cell? ⟨w.heap.size + 1 + 1 + 1, 1, none⟩ = some (.int .i64 dv) ∧ W.cell? ⟨w.heap.size + 1 + 1 + 1, 2, none⟩ = some (.int .i64 dw) := fun h => ⟨keepc h e0, keepc h e1, keepc h e2, keepc h xy0, keepc h xy1, keepc h xy2⟩
        refine wp_region_held_drew (S := fun V => V.cell? ⟨b0, o0 + k * 3, none⟩ = some (.slice uA uxs.length uC) ∧ V.cell? ⟨b0, o0 + k * 3 + 1, none⟩ = some (.int .i64 ul) ∧ V.cell? ⟨b0, o0 + k * 3 + 2, none⟩ = some (.int .i64 uh) ∧ V.cell? ⟨w.heap.size + 1 + 1 + 1, 0, none⟩ = some (.int .i64 du) ∧ V.cell? ⟨w.heap.size + 1 + 1 + 1, 1, none⟩ = some (.int .i64 dv) ∧ V.cell? ⟨w.heap.size + 1 + 1 + 1, 2, none⟩ = some (.int .i64 dw)) (by kernel_rfl) (kp (Below.refl _ _).drew) fun HL_ => ?_
        refine wpAnyH_take (i := 0) (v := .slice (some ⟨b0, o0, none⟩) b.length bC) rfl (by kernel_rfl) (by kernel_rfl) (by kernel_rfl) (fun _ _ _ h => h) (Or.inl ⟨by kernel_rfl, ?_⟩) HL_ ?_
        · rintro Wl ⟨s0, s1, s2, s3, s4, s5⟩
          go_simp
        simp only [Act.put, List.getElem_toArray, List.getElem_cons_succ, List.getElem_cons_zero, List.setIfInBounds_toArray, List.set_cons_zero, List.set_cons_succ]
        refine wpAnyH_take (i := 1) (v := .int .i64 k) rfl (by kernel_rfl) (by kernel_rfl) (by kernel_rfl) (fun _ _ _ h => h) (Or.inl ⟨by kernel_rfl, ?_⟩) HL_ ?_
        · rintro Wl ⟨s0, s1, s2, s3, s4, s5⟩
          go_simp
        simp only [Act.put, List.getElem_toArray, List.getElem_cons_succ, List.getElem_cons_zero, List.setIfInBounds_toArray, List.set_cons_zero, List.set_cons_succ]
        refine wpAnyH_take (i := 2) (v := .pointer (some ⟨b0, o0 + k * 3, none⟩)) rfl (by kernel_rfl) (by kernel_rfl) (by kernel_rfl) (fun _ _ _ h => h) (Or.inl ⟨by kernel_rfl, ?_⟩) HL_ ?_
        · rintro Wl ⟨s0, s1, s2, s3, s4, s5⟩
          go_simp
        simp only [Act.put, List.getElem_toArray, List.getElem_cons_succ, List.getElem_cons_zero, List.setIfInBounds_toArray, List.set_cons_zero, List.set_cons_succ]
        refine wpAnyH_take (i := 3) (v := .agg #[.slice uA uxs.length uC, .int .i64 ul, .int .i64 uh]) rfl (by kernel_rfl) (by kernel_rfl) (by kernel_rfl) (fun _ _ _ h => h) (Or.inl ⟨by kernel_rfl, ?_⟩) HL_ ?_
        · rintro Wl ⟨s0, s1, s2, s3, s4, s5⟩
          go_simp
        simp only [Act.put, List.getElem_toArray, List.getElem_cons_succ, List.getElem_cons_zero, List.setIfInBounds_toArray, List.set_cons_zero, List.set_cons_succ]
        refine wpAnyH_take (i := 4) (v := .agg #[.int .i64 du, .int .i64 dv, .int .i64 dw]) rfl (by kernel_rfl) (by kernel_rfl) (by kernel_rfl) (fun _ _ _ h => h) (Or.inl ⟨by kernel_rfl, ?_⟩) HL_ ?_
        · rintro Wl ⟨s0, s1, s2, s3, s4, s5⟩
          go_simp
        simp only [Act.put, List.getElem_toArray, List.getElem_cons_succ, List.getElem_cons_zero, List.setIfInBounds_toArray, List.set_cons_zero, List.set_cons_succ]
        refine wpAnyH_ready (rs := [5, 9]) (by kernel_rfl) (by simp) ?_
        refine AllReadyH.cons (o := _) rfl (fun K hK => ?_) (AllReadyH.cons (o := _) rfl (fun K hK => ?_) AllReadyH.nil)
        · go_simp
          with_reducible refine (CM.out _ (HSL.out.below (Below.refl _ _).drew)).mono ?_
          rintro e_ wc ⟨rfl, hb⟩
          replace hb : Below wr.heap.size wr wc := undrew_b hb
          refine hK.out _ _ (kp hb) fun HL_ => ?_
          clear hK K
          refine wpAnyH_take (i := 6) (v := .tuple #[.agg #[.slice none 0 0, .int .i64 0, .int .i64 0], .int .i64 E_]) rfl (by kernel_rfl) (by kernel_rfl) (by kernel_rfl) (fun _ _ _ h => h) (Or.inl ⟨by kernel_rfl, ?_⟩) HL_ ?_
          · rintro Wl ⟨s0, s1, s2, s3, s4, s5⟩
            go_simp
          simp only [Act.put, List.getElem_toArray, List.getElem_cons_succ, List.getElem_cons_zero, List.setIfInBounds_toArray, List.set_cons_zero, List.set_cons_succ]
          refine wpAnyH_take (i := 7) (v := .agg #[.slice none 0 0, .int .i64 0, .int .i64 0]) rfl (by kernel_rfl) (by kernel_rfl) (by kernel_rfl) (fun _ _ _ h => h) (Or.inl ⟨by kernel_rfl, ?_⟩) HL_ ?_
          · rintro Wl ⟨s0, s1, s2, s3, s4, s5⟩
            go_simp
          simp only [Act.put, List.getElem_toArray, List.getElem_cons_succ, List.getElem_cons_zero, List.setIfInBounds_toArray, List.set_cons_zero, List.set_cons_succ]
          refine wpAnyH_take (i := 8) (v := .int .i64 E_) rfl (by kernel_rfl) (by kernel_rfl) (by kernel_rfl) (fun _ _ _ h => h) (Or.inl ⟨by kernel_rfl, ?_⟩) HL_ ?_
          · rintro Wl ⟨s0, s1, s2, s3, s4, s5⟩
            go_simp
          simp only [Act.put, List.getElem_toArray, List.getElem_cons_succ, List.getElem_cons_zero, List.setIfInBounds_toArray, List.set_cons_zero, List.set_cons_succ]
          refine wpAnyH_ready (rs := [9]) (by kernel_rfl) (by simp) ?_
          refine AllReadyH.cons (o := _) rfl (fun K hK => ?_) AllReadyH.nil
          go_simp
          have hb4 := on_below hb (below_new wc (.cells #[.slice none 0 0, .int .i64 0, .int .i64 0] 42))
          have hz : (wc.alloc (.cells #[.slice none 0 0, .int .i64 0, .int .i64 0] 42)).heap[wc.heap.size]? = some (.cells #[.slice none 0 0, .int .i64 0, .int .i64 0] 42 (0, 0)) := World.alloc_heap_new _ _
          have hg5 : wr.heap.size ≤ wc.heap.size := hb.size
          refine hK.out _ _ (kp hb4) fun HL_ => ?_
          clear hK K hb
          generalize wc.alloc (.cells #[.slice none 0 0, .int .i64 0, .int .i64 0] 42) = w4 at *
          generalize wc.heap.size = g5 at *
          obtain ⟨x0, x1, x2⟩ := cells3 hz
          have f0 := froz4 hz 0
          have f1 := froz4 hz 1
          have f2 := froz4 hz 2
          have hb5 : Below wr.heap.size wr (((w4.setCell ⟨g5, 0, none⟩ (.slice none 0 0)).setCell ⟨g5, 1, none⟩ (.int .i64 0)).setCell ⟨g5, 2, none⟩ (.int .i64 0)) := (((hb4.setCell hg5 _).setCell hg5 _).setCell hg5 _)
          have hz5 : (((w4.setCell ⟨g5, 0, none⟩ (.slice none 0 0)).setCell ⟨g5, 1, none⟩ (.int .i64 0)).setCell ⟨g5, 2, none⟩ (.int .i64 0)).heap[g5]? = some (.cells #[.slice none 0 0, .int .i64 0, .int .i64 0] 42 (0, 0)) := (set_cells (set_cells (set_cells hz 0 _) 1 _) 2 _)
          refine wpAnyH_ready (rs := [10]) (by kernel_rfl) (by simp) ?_
          refine AllReadyH.cons (o := _) rfl (fun K hK => ?_) AllReadyH.nil
          go_simp
          refine hK.out _ _ (kp hb5) fun HL_ => ?_
          clear hK K x0 x1 x2 f0 f1 f2 hz hb4
          generalize (((w4.setCell ⟨g5, 0, none⟩ (.slice none 0 0)).setCell ⟨g5, 1, none⟩ (.int .i64 0)).setCell ⟨g5, 2, none⟩ (.int .i64 0)) = w5 at *
          refine wpAnyH_take (i := 11) (v := .int .i64 E_) rfl (by kernel_rfl) (by kernel_rfl) (by kernel_rfl) (fun _ _ _ h => h) (Or.inl ⟨by kernel_rfl, ?_⟩) HL_ ?_
          · rintro Wl ⟨s0, s1, s2, s3, s4, s5⟩
            go_simp
          simp only [Act.put, List.getElem_toArray, List.getElem_cons_succ, List.getElem_cons_zero, List.setIfInBounds_toArray, List.set_cons_zero, List.set_cons_succ]
          refine wpAnyH_done (by kernel_rfl) ?_ _
          obtain ⟨x0, x1, x2⟩ := cells3 hz5
          have lx := block_lt x0
          clear HL_ kp hz5 hg5
          go_wp2_with fail
          go_ret
          exact ⟨rfl, on_below HB.out (on_below HW.out hb5)⟩
        · go_simp
          have hb : Below wr.heap.size wr (wr.alloc (.cells #[.slice none 0 0, .int .i64 0, .int .i64 0] 42)).drew := (below_new wr (.cells #[.slice none 0 0, .int .i64 0, .int .i64 0] 42)).drew
          have hz : (wr.alloc (.cells #[.slice none 0 0, .int .i64 0, .int .i64 0] 42)).drew.heap[wr.heap.size]? = some (.cells #[.slice none 0 0, .int .i64 0, .int .i64 0] 42 (0, 0)) := World.alloc_heap_new _ _
          refine hK.out _ _ (kp hb) fun HL_ => ?_
          clear hK K
          generalize (wr.alloc (.cells #[.slice none 0 0, .int .i64 0, .int .i64 0] 42)).drew = wc at *
          refine wpAnyH_ready (rs := [5]) (by kernel_rfl) (by simp) ?_
          refine AllReadyH.cons (o := _) rfl (fun K hK => ?_) AllReadyH.nil
          go_simp
          with_reducible refine (CM.out _ (HSL.out.below hb)).mono ?_
          rintro e_ w4 ⟨rfl, hb4⟩
          replace hz := blk_on hz hb4
          replace hb4 := on_below hb hb4
          refine hK.out _ _ (kp hb4) fun HL_ => ?_
          clear hK K hb
          obtain ⟨g5, hgg, hg5⟩ : ∃ g, wr.heap.size = g ∧ wr.heap.size ≤ g := ⟨_, rfl, Nat.le_refl _⟩
          rw [hgg] at hz ⊢
          clear hgg
          refine wpAnyH_take (i := 6) (v := .tuple #[.agg #[.slice none 0 0, .int .i64 0, .int .i64 0], .int .i64 E_]) rfl (by kernel_rfl) (by kernel_rfl) (by kernel_rfl) (fun _ _ _ h => h) (Or.inl ⟨by kernel_rfl, ?_⟩) HL_ ?_
          · rintro Wl ⟨s0, s1, s2, s3, s4, s5⟩
            go_simp
          simp only [Act.put, List.getElem_toArray, List.getElem_cons_succ, List.getElem_cons_zero, List.setIfInBounds_toArray, List.set_cons_zero, List.set_cons_succ]
          refine wpAnyH_take (i := 7) (v := .agg #[.slice none 0 0, .int .i64 0, .int .i64 0]) rfl (by kernel_rfl) (by kernel_rfl) (by kernel_rfl) (fun _ _ _ h => h) (Or.inl ⟨by kernel_rfl, ?_⟩) HL_ ?_
          · rintro Wl ⟨s0, s1, s2, s3, s4, s5⟩
            go_simp
          simp only [Act.put, List.getElem_toArray, List.getElem_cons_succ, List.getElem_cons_zero, List.setIfInBounds_toArray, List.set_cons_zero, List.set_cons_succ]
          refine wpAnyH_take (i := 8) (v := .int .i64 E_) rfl (by kernel_rfl) (by kernel_rfl) (by kernel_rfl) (fun _ _ _ h => h) (Or.inl ⟨by kernel_rfl, ?_⟩) HL_ ?_
          · rintro Wl ⟨s0, s1, s2, s3, s4, s5⟩
            go_simp
          simp only [Act.put, List.getElem_toArray, List.getElem_cons_succ, List.getElem_cons_zero, List.setIfInBounds_toArray, List.set_cons_zero, List.set_cons_succ]
          obtain ⟨x0, x1, x2⟩ := cells3 hz
          have f0 := froz4 hz 0
          have f1 := froz4 hz 1
          have f2 := froz4 hz 2
          have hb5 : Below wr.heap.size wr (((w4.setCell ⟨g5, 0, none⟩ (.slice none 0 0)).setCell ⟨g5, 1, none⟩ (.int .i64 0)).setCell ⟨g5, 2, none⟩ (.int .i64 0)) := (((hb4.setCell hg5 _).setCell hg5 _).setCell hg5 _)
          have hz5 : (((w4.setCell ⟨g5, 0, none⟩ (.slice none 0 0)).setCell ⟨g5, 1, none⟩ (.int .i64 0)).setCell ⟨g5, 2, none⟩ (.int .i64 0)).heap[g5]? = some (.cells #[.slice none 0 0, .int .i64 0, .int .i64 0] 42 (0, 0)) := (set_cells (set_cells (set_cells hz 0 _) 1 _) 2 _)
          refine wpAnyH_ready (rs := [10]) (by kernel_rfl) (by simp) ?_
          refine AllReadyH.cons (o := _) rfl (fun K hK => ?_) AllReadyH.nil
          go_simp
          refine hK.out _ _ (kp hb5) fun HL_ => ?_
          clear hK K x0 x1 x2 f0 f1 f2 hz hb4
          generalize (((w4.setCell ⟨g5, 0, none⟩ (.slice none 0 0)).setCell ⟨g5, 1, none⟩ (.int .i64 0)).setCell ⟨g5, 2, none⟩ (.int .i64 0)) = w5 at *
          refine wpAnyH_take (i := 11) (v := .int .i64 E_) rfl (by kernel_rfl) (by kernel_rfl) (by kernel_rfl) (fun _ _ _ h => h) (Or.inl ⟨by kernel_rfl, ?_⟩) HL_ ?_
          · rintro Wl ⟨s0, s1, s2, s3, s4, s5⟩
            go_simp
          simp only [Act.put, List.getElem_toArray, List.getElem_cons_succ, List.getElem_cons_zero, List.setIfInBounds_toArray, List.set_cons_zero, List.set_cons_succ]
          refine wpAnyH_done (by kernel_rfl) ?_ _
          obtain ⟨x0, x1, x2⟩ := cells3 hz5
          have lx := block_lt x0
          clear HL_ kp hz5 hg5
          go_wp2_with fail
          go_ret
          exact ⟨rfl, on_below HB.out (on_below HW.out hb5)⟩
    · have hke : k = b.length := Nat.le_antisymm hk (Nat.le_of_not_lt hlt)
      subst hke
      have hb := hW
      clear hW
      replace HB := Lib.hid (on_below HB.out hb)
      replace HT := Lib.hid (HT.out.below hb)
      replace HM := Lib.hid (HM.out.below hb)
      replace p0 := keepc hb p0
      replace p1 := keepc hb p1
      replace p2 := keepc hb p2
      replace q0 := keepc hb q0
      replace q1 := keepc hb q1
      replace q2 := keepc hb q2
      replace o0 := keepc hb o0
      replace o1 := keepc hb o1
      replace y0 := keepc hb y0
      replace y1 := keepc hb y1
      replace y2 := keepc hb y2
      replace a0 := keepc hb a0
      replace a1 := keepc hb a1
      replace a2 := keepc hb a2
      replace c0 := keepc hb c0
      replace c1 := keepc hb c1
      replace c2 := keepc hb c2
      replace kp := blk_on kp hb
      replace kq := blk_on kq hb
      replace ko := blk_on ko hb
      replace ky := blk_on ky hb
      replace lp := Nat.lt_of_lt_of_le lp hb.size
      replace lq := Nat.lt_of_lt_of_le lq hb.size
      replace lo := Nat.lt_of_lt_of_le lo hb.size
      replace ly := Nat.lt_of_lt_of_le ly hb.size
      replace la := Nat.lt_of_lt_of_le la hb.size
      replace lc := Nat.lt_of_lt_of_le lc hb.size
      clear hb
      obtain ⟨hml, _, hmj⟩ := HMV.out
      have HMJ := Lib.hid hmj
      clear hmj
      obtain ⟨nA, nC, rfl, _, _, _, hns⟩ := own_bds HO.out (fun j hj => by obtain ⟨g, C, e, hs, _⟩ := HMJ.out j (by omega); rw [e]; exact hs)
      have HN := Lib.hid hns
      clear HO hns
      have hmp : Mvp b M du dv dw := ⟨hml, fun j hj => by obtain ⟨g, C, e, _⟩ := HMJ.out j hj; exact ⟨_, _, e⟩⟩
      have hbm : Bsm M := fun j hj => by
        obtain ⟨g, C, e, _⟩ := HMJ.out j (by omega)
        rw [e]
        show (mv (gdB b j).xs du dv).length ≤ _
        rw [mv_len]
        exact HBS.out j (by omega)
      obtain ⟨r2, E2, h2⟩ := shd_ex t m (ex + du) (ey + dv) (ez + dw) M
      obtain ⟨r4, E4, h4_⟩ := glr_ex t m (ex + du) (ey + dv) (ez + dw) (tx + du) (ty + dv) (tz + dw) N Q M
      have C2 := fun W (a : S4 W tA t) (c : BdS W nA M) => shd_is tA tC t m (ex + du) (ey + dv) (ez + dw) nA nC M (by omega) (by omega) (fun _ => hbm) r2 E2 h2 W a c
      have C4 := fun W (a : S4 W tA t) (c : BdS W nA M) => glr_is tA tC t m (ex + du) (ey + dv) (ez + dw) (tx + du) (ty + dv) (tz + dw) N Q nA nC M (by omega) (by omega) (fun _ => hbm) HIN.out HIQ.out r4 E4 h4_ W a c
      simp only [hml] at C2 C4
      replace C2 := Lib.hid C2
      replace C4 := Lib.hid C4
      obtain ⟨x1, hx1⟩ : ∃ x, (E1 != 0) = x := ⟨_, rfl⟩
      obtain ⟨x2, hx2⟩ : ∃ x, (E2 != 0) = x := ⟨_, rfl⟩
      obtain ⟨x3, hx3⟩ : ∃ x, (E3 != 0) = x := ⟨_, rfl⟩
      obtain ⟨x4, hx4⟩ : ∃ x, (E4 != 0) = x := ⟨_, rfl⟩
      have K1 : Hid (x1 = false → x2 = false → r1 = r2) := fun a c => by
        have e1 : E1 = 0 := by rw [a] at hx1; simpa using hx1
        have e2 : E2 = 0 := by rw [c] at hx2; simpa using hx2
        have k1 := S1.out
        rw [e1] at k1
        rw [e2] at h2
        exact shd_moved hmp k1 h2
      have K2 : Hid (x3 = false → x4 = false → r3 = r4) := fun a c => by
        have e1 : E3 = 0 := by rw [a] at hx3; simpa using hx3
        have e2 : E4 = 0 := by rw [c] at hx4; simpa using hx4
        have k1 := S3.out
        rw [e1] at k1
        rw [e2] at h4_
        exact glr_moved hmp k1 h4_
      clear h2 h4_ hmp hbm
      go_wp2_with fail
      with_reducible refine (C1.out _ HT.out HM.out).mono ?_
      rintro e_ w8 ⟨rfl, hb⟩
      replace HB := Lib.hid (on_below HB.out hb)
      replace HT := Lib.hid (HT.out.below hb)
      replace HM := Lib.hid (HM.out.below hb)
      replace HN := Lib.hid (HN.out.below hb)
      replace p0 := keepc hb p0
      replace p1 := keepc hb p1
      replace p2 := keepc hb p2
      replace q0 := keepc hb q0
      replace q1 := keepc hb q1
      replace q2 := keepc hb q2
      replace o0 := keepc hb o0
      replace o1 := keepc hb o1
      replace y0 := keepc hb y0
      replace y1 := keepc hb y1
      replace y2 := keepc hb y2
      replace a0 := keepc hb a0
      replace a1 := keepc hb a1
      replace a2 := keepc hb a2
      replace c0 := keepc hb c0
      replace c1 := keepc hb c1
      replace c2 := keepc hb c2
      replace kp := blk_on kp hb
      replace kq := blk_on kq hb
      replace ko := blk_on ko hb
      replace ky := blk_on ky hb
      replace lp := Nat.lt_of_lt_of_le lp hb.size
      replace lq := Nat.lt_of_lt_of_le lq hb.size
      replace lo := Nat.lt_of_lt_of_le lo hb.size
      replace ly := Nat.lt_of_lt_of_le ly hb.size
      replace la := Nat.lt_of_lt_of_le la hb.size
      replace lc := Nat.lt_of_lt_of_le lc hb.size
      clear hb
      go_wp2_with fail
      with_reducible refine (C2.out _ HT.out HN.out).mono ?_
      rintro e_ w9 ⟨rfl, hb⟩
      replace HB := Lib.hid (on_below HB.out hb)
      replace HT := Lib.hid (HT.out.below hb)
      replace HM := Lib.hid (HM.out.below hb)
      replace HN := Lib.hid (HN.out.below hb)
      replace p0 := keepc hb p0
      replace p1 := keepc hb p1
      replace p2 := keepc hb p2
      replace q0 := keepc hb q0
      replace q1 := keepc hb q1
      replace q2 := keepc hb q2
      replace o0 := keepc hb o0
      replace o1 := keepc hb o1
      replace y0 := keepc hb y0
      replace y1 := keepc hb y1
      replace y2 := keepc hb y2
      replace a0 := keepc hb a0
      replace a1 := keepc hb a1
      replace a2 := keepc hb a2
      replace c0 := keepc hb c0
      replace c1 := keepc hb c1
      replace c2 := keepc hb c2
      replace kp := blk_on kp hb
      replace kq := blk_on kq hb
      replace ko := blk_on ko hb
      replace ky := blk_on ky hb
      replace lp := Nat.lt_of_lt_of_le lp hb.size
      replace lq := Nat.lt_of_lt_of_le lq hb.size
      replace lo := Nat.lt_of_lt_of_le lo hb.size
      replace ly := Nat.lt_of_lt_of_le ly hb.size
      replace la := Nat.lt_of_lt_of_le la hb.size
      replace lc := Nat.lt_of_lt_of_le lc hb.size
      clear hb
      go_wp2_with fail
      with_reducible refine (C3.out _ HT.out HM.out).mono ?_
      rintro e_ w10 ⟨rfl, hb⟩
      replace HB := Lib.hid (on_below HB.out hb)
      replace HT := Lib.hid (HT.out.below hb)
      replace HM := Lib.hid (HM.out.below hb)
      replace HN := Lib.hid (HN.out.below hb)
      replace p0 := keepc hb p0
      replace p1 := keepc hb p1
      replace p2 := keepc hb p2
      replace q0 := keepc hb q0
      replace q1 := keepc hb q1
      replace q2 := keepc hb q2
      replace o0 := keepc hb o0
      replace o1 := keepc hb o1
      replace y0 := keepc hb y0
      replace y1 := keepc hb y1
      replace y2 := keepc hb y2
      replace a0 := keepc hb a0
      replace a1 := keepc hb a1
      replace a2 := keepc hb a2
      replace c0 := keepc hb c0
      replace c1 := keepc hb c1
      replace c2 := keepc hb c2
      replace kp := blk_on kp hb
      replace kq := blk_on kq hb
      replace ko := blk_on ko hb
      replace ky := blk_on ky hb
      replace lp := Nat.lt_of_lt_of_le lp hb.size
      replace lq := Nat.lt_of_lt_of_le lq hb.size
      replace lo := Nat.lt_of_lt_of_le lo hb.size
      replace ly := Nat.lt_of_lt_of_le ly hb.size
      replace la := Nat.lt_of_lt_of_le la hb.size
      replace lc := Nat.lt_of_lt_of_le lc hb.size
      clear hb
      go_wp2_with fail
      with_reducible refine (C4.out _ HT.out HN.out).mono ?_
      rintro e_ w11 ⟨rfl, hb⟩
      replace HB := Lib.hid (on_below HB.out hb)
      replace HT := Lib.hid (HT.out.below hb)
      replace HM := Lib.hid (HM.out.below hb)
      replace HN := Lib.hid (HN.out.below hb)
      replace p0 := keepc hb p0
      replace p1 := keepc hb p1
      replace p2 := keepc hb p2
      replace q0 := keepc hb q0
      replace q1 := keepc hb q1
      replace q2 := keepc hb q2
      replace o0 := keepc hb o0
      replace o1 := keepc hb o1
      replace y0 := keepc hb y0
      replace y1 := keepc hb y1
      replace y2 := keepc hb y2
      replace a0 := keepc hb a0
      replace a1 := keepc hb a1
      replace a2 := keepc hb a2
      replace c0 := keepc hb c0
      replace c1 := keepc hb c1
      replace c2 := keepc hb c2
      replace kp := blk_on kp hb
      replace kq := blk_on kq hb
      replace ko := blk_on ko hb
      replace ky := blk_on ky hb
      replace lp := Nat.lt_of_lt_of_le lp hb.size
      replace lq := Nat.lt_of_lt_of_le lq hb.size
      replace lo := Nat.lt_of_lt_of_le lo hb.size
      replace ly := Nat.lt_of_lt_of_le ly hb.size
      replace la := Nat.lt_of_lt_of_le la hb.size
      replace lc := Nat.lt_of_lt_of_le lc hb.size
      clear hb
      cases x1 <;> cases x2 <;> cases x3 <;> cases x4
      all_goals (try (obtain rfl := K1.out rfl rfl))
      all_goals (try (obtain rfl := K2.out rfl rfl))
      all_goals clear K1 K2
      all_goals go_wp2_with fail
      all_goals go_ret
      all_goals exact ⟨rfl, HB.out⟩
theorem law_any (tA : Option Addr) (tC : Nat) (t : List Q4) (m : Int) (im : I64 m) (ex ey ez tx ty tz N Q : Int) (iN : I64 N) (iQ : I64 Q) (bA : Option Addr) (bC : Nat) (b : List Bv) (du dv dw : Int) (w : World) (lt : L4 w tA tC t) (lb : LB w bA bC b) :
    Calls Try.prog 6 #[.slice tA t.length tC, .int .i64 m, .agg #[.int .i64 ex, .int .i64 ey, .int .i64 ez], .agg #[.int .i64 tx, .int .i64 ty, .int .i64 tz], .agg #[.int .i64 N, .int .i64 Q], .slice bA b.length bC, .agg #[.int .i64 du, .int .i64 dv, .int .i64 dw]] w fun e_ w' => e_ = .returned (.bool true) ∧ Below w.heap.size w w' := by
  have h4 : t.length ≤ 9223372036854775807 := Nat.le_trans lt.cap.1 lt.cap.2
  have h5 : b.length ≤ 9223372036854775807 := Nat.le_trans lb.cap.1 lb.cap.2
  have h6 := lb.len
  by_cases hf : FewS t.length b
  · by_cases hE : sE (vv ex ey ez) (vv du dv dw) (vv (ex + du) (ey + dv) (ez + dw)) = 0
    · by_cases hG : sE (vv tx ty tz) (vv du dv dw) (vv (tx + du) (ty + dv) (tz + dw)) = 0
      · obtain ⟨r1, E1, h1⟩ := shd_ex t m ex ey ez b
        obtain ⟨r3, E3, h3⟩ := glr_ex t m ex ey ez tx ty tz N Q b
        exact mov_3 tA tC t m ex ey ez tx ty tz N Q bA bC b du dv dw h4 h5 h6 iN iQ r1 r3 E1 E3 h1 h3 hf (sE_ok.1 hE).2.1 hE hG w lt.sl lb.sl
      · exact mov_2 tA tC t m ex ey ez tx ty tz N Q bA bC b du dv dw h4 h5 h6 iN iQ hf _ _ _ _ _ _ _ _ rfl rfl rfl rfl rfl rfl rfl rfl hE hG w lt.sl lb.sl
    · exact mov_1 tA tC t m ex ey ez tx ty tz N Q bA bC b du dv dw h4 h5 h6 iN iQ hf _ _ _ _ _ _ _ _ rfl rfl rfl rfl rfl rfl rfl rfl hE w lt.sl lb.sl
  · exact mov_0 tA tC t m ex ey ez tx ty tz N Q bA bC b du dv dw h4 h5 h6 iN iQ hf w lt.sl lb.sl
section
open Go.ChangeShapes Go.WideShapes Go.ChangeAt Go.Joins
theorem cellsRat : Try.prog.cellsOf 39 = 2 := by kernel_rfl

section
variable {H : Type} {enc : TypeId × Value → H}
/-- A pair as data. -/
abbrev datRat (a b : Int) : DataW H := .agg [.lit (.int .i64 a), .lit (.int .i64 b)]

set_option maxRecDepth 100000 in
theorem open_rat {W : World} {base : Nat} {sp : Nat → Bool} {held : Bool} {v : Value} {d : DataW H} {p : List MemPlace} (hv : Value.okWide Try.prog W .any base 39 v) (h : DataW.Trod enc Try.prog W 0 sp held 39 v d p) :
    ∃ a b : Int, v = .agg #[.int .i64 a, .int .i64 b] ∧ d = datRat a b ∧ p = [] ∧ (Lit.int .i64 a).wf = true ∧ (Lit.int .i64 b).wf = true := by
  obtain ⟨c0, c1, y0, y1, m, rfl, rfl, rfl, hy0, hy1⟩ := open_agg2 Try.underlying39 (by kernel_rfl) cellsRat hv h
  obtain ⟨a, e0, rfl, wa⟩ := DataW.trod_int Try.underlying3 hy0
  obtain ⟨b, e1, rfl, wb⟩ := DataW.trod_int Try.underlying3 hy1
  simp at e0 e1
  subst e0 e1
  exact ⟨a, b, rfl, rfl, rfl, wa, wb⟩

set_option maxRecDepth 100000 in
theorem shut_rat {W : World} {sp : Nat → Bool} {held : Bool} {a b : Int} (wa : (Lit.int .i64 a).wf = true) (wb : (Lit.int .i64 b).wf = true) :
    DataW.Trod enc Try.prog W 0 sp held 39 (.agg #[.int .i64 a, .int .i64 b]) (datRat a b) [] :=
  shut_agg2 (y0 := (.lit (.int .i64 a), [])) (y1 := (.lit (.int .i64 b), [])) Try.underlying39 (by kernel_rfl) cellsRat ⟨1, by simp [DataW.trod, Try.underlying3, wa]⟩ ⟨1, by simp [DataW.trod, Try.underlying3, wb]⟩
end
end
/-! ### The row -/
open Go.ChangeShapes Go.WideShapes Go.ChangeAt Go.Joins
theorem own : ownKnob Try.prog.godebug = none := by kernel_rfl
noncomputable def laidWorld (os : Os) : World := World.holding Try.prog os ⟨#[], #[], []⟩
theorem laidWorld_met (os : Os) (args : Array Value) : laidMet Try.prog [] ((laidWorld os).forCall (fun _ _ => 0) ⟨#[], args, []⟩).memory :=
  laidMet_of_run' 8 (by kernel_rfl) (by kernel_rfl)

set_option maxRecDepth 100000 in
theorem contract (H : Type) (enc : TypeId × Value → H) (W : World) (base : Nat) (args : Array Value) (ds gs : List (DataW H)) (before : List MemPlace)
    (hval : ∀ (j : Nat) t v, Try.f6.params[j]? = some t → args[j]? = some v → Value.okWide Try.prog W .any base t v)
    (hW : DataW.Whole enc Try.prog Try.f6.params.toList Rows.sunMovesSpec.vars false W args.toList ds gs before) :
    Calls Try.prog 6 args W fun e W' => ∃ v, e = .returned v ∧ Rows.sunMovesSpec.post enc Try.prog Try.f6 false true false false W args v W' := by
  have hW' := hW
  have hold : ∀ q ∈ before, decide (q.block < W.heap.size) = true := fun q hq => by simpa using hW.lt q hq
  obtain ⟨p, q, hA0, hV, rfl, hfz, hnd⟩ := hW
  have hA : DataW.TrodAll enc Try.prog W 0 (fun _ => true) true Try.f6.params.toList args.toList ds p := hA0
  rw [Try.params6] at hA hval
  obtain ⟨v0, vs0, d0, ds0, p0, q0, hargs, rfl, rfl, h0, r0⟩ := trodAll_cons hA
  obtain ⟨v1, vs1, d1, ds1, p1, q1, rfl, rfl, rfl, h1, r1⟩ := trodAll_cons r0
  obtain ⟨v2, vs2, d2, ds2, p2, q2, rfl, rfl, rfl, h2, r2⟩ := trodAll_cons r1
  obtain ⟨v3, vs3, d3, ds3, p3, q3, rfl, rfl, rfl, h3, r3⟩ := trodAll_cons r2
  obtain ⟨v4, vs4, d4, ds4, p4, q4, rfl, rfl, rfl, h4, r4⟩ := trodAll_cons r3
  obtain ⟨v5, vs5, d5, ds5, p5, q5, rfl, rfl, rfl, h5, r5⟩ := trodAll_cons r4
  obtain ⟨v6, vs6, d6, ds6, p6, q6, rfl, rfl, rfl, h6, r6⟩ := trodAll_cons r5
  obtain ⟨rfl, rfl, rfl⟩ := trodAll_nil r6
  obtain rfl : args = #[v0, v1, v2, v3, v4, v5, v6] := Array.toList_inj.1 hargs
  obtain ⟨rfl, rfl⟩ := trodVars_none hV
  obtain ⟨tA, tC, t, rfl, lt, shutt⟩ := open_suns (hval 0 22 v0 rfl rfl) h0
  obtain ⟨m, rfl, rfl, rfl, im⟩ := open_int Try.underlying3 (hval 1 3 v1 rfl rfl) h1
  obtain ⟨ex, ey, ez, rfl, rfl, rfl, iex, iey, iez⟩ := open_vec (hval 2 27 v2 rfl rfl) h2
  obtain ⟨gx, gy, gz, rfl, rfl, rfl, igx, igy, igz⟩ := open_vec (hval 3 27 v3 rfl rfl) h3
  obtain ⟨rn, rd, rfl, rfl, rfl, irn, ird⟩ := open_rat (hval 4 39 v4 rfl rfl) h4
  obtain ⟨bA, bC, b, rfl, lb, shutb⟩ := open_bodies (hval 5 34 v5 rfl rfl) h5
  obtain ⟨dx, dy, dz, rfl, rfl, rfl, idx, idy, idz⟩ := open_vec (hval 6 27 v6 rfl rfl) h6
  clear hA0
  refine (law_any tA tC t m (wf_i im) ex ey ez gx gy gz rn rd (wf_i irn) (wf_i ird) bA bC b dx dy dz W lt lb).mono fun e W' ⟨he, bel⟩ => ?_
  subst he
  exact ⟨_, rfl, _, _, _, [], _, [], hW', trodAll_mk1 (shut_bool Try.underlying4 _), (trodAll_cons_mk (shutt W' (fun b => decide (b < W.heap.size)) bel (fun q hq => hold q (by simp [hq]))) (trodAll_cons_mk (shut_int Try.underlying3 im) (trodAll_cons_mk (shut_vec iex iey iez) (trodAll_cons_mk (shut_vec igx igy igz) (trodAll_cons_mk (shut_rat irn ird) (trodAll_cons_mk (shutb W' (fun b => decide (b < W.heap.size)) bel (fun q hq => hold q (by simp [hq]))) (trodAll_cons_mk (shut_vec idx idy idz) trodAll_mk0))))))), rfl, bel.frame _, fun h => by cases h⟩

theorem reads (os : Os) {H : Type} (enc : TypeId × Value → H) : ∃ places, DataW.whole enc Try.prog ((laidWorld os).forCall (fun _ _ => 0) ⟨#[], #[.slice none 0 0, .int .i64 0, .agg #[.int .i64 0, .int .i64 0, .int .i64 0], .agg #[.int .i64 0, .int .i64 0, .int .i64 0], .agg #[.int .i64 0, .int .i64 0], .slice none 0 0, .agg #[.int .i64 0, .int .i64 0, .int .i64 0]], []⟩).memory Try.f6.params.toList Rows.sunMovesSpec.vars false (#[.slice none 0 0, .int .i64 0, .agg #[.int .i64 0, .int .i64 0, .int .i64 0], .agg #[.int .i64 0, .int .i64 0, .int .i64 0], .agg #[.int .i64 0, .int .i64 0], .slice none 0 0, .agg #[.int .i64 0, .int .i64 0, .int .i64 0]] : Array Value).toList 8 = some ([.nil, .lit (.int .i64 0), .agg [.lit (.int .i64 0), .lit (.int .i64 0), .lit (.int .i64 0)], .agg [.lit (.int .i64 0), .lit (.int .i64 0), .lit (.int .i64 0)], .agg [.lit (.int .i64 0), .lit (.int .i64 0)], .nil, .agg [.lit (.int .i64 0), .lit (.int .i64 0), .lit (.int .i64 0)]], [], places) :=
  ⟨[], by kernel_rfl⟩

set_option maxRecDepth 100000 in
theorem lifted (os : Os) (started : os.Started) (H : Type) (enc : TypeId × Value → H) (F : Stop.Interp) :
    ReturnsInHanded {} Try.checked os 6 .any ((OpenSpec.ofChange Rows.sunMovesSpec).preRow enc Try.prog Try.f6 Rows.sunMovesRow.domain false Rows.sunMovesRow.laid) (((OpenSpec.ofChange Rows.sunMovesSpec).at F).post enc Try.prog Try.f6 false true false false) := by
  obtain ⟨places, hx⟩ := reads os enc
  refine returnsInHanded_of_row (C := Try.checked) (s := OpenSpec.ofChange Rows.sunMovesSpec) own started (by kernel_rfl) Try.func6
    (witness_row_atRef (enc := enc) (C := Try.checked) false (laidWorld os) #[.slice none 0 0, .int .i64 0, .agg #[.int .i64 0, .int .i64 0, .int .i64 0], .agg #[.int .i64 0, .int .i64 0, .int .i64 0], .agg #[.int .i64 0, .int .i64 0], .slice none 0 0, .agg #[.int .i64 0, .int .i64 0, .int .i64 0]] rfl (by kernel_rfl) (by kernel_rfl) (by kernel_rfl)
      (OpenSpec.preRow_of_cond 8 hx (by kernel_rfl) (fun k hk => by cases hk) (by kernel_rfl) (laidWorld_met os _))) ?_
  intro W base args ds gs before hval hW _ hcond _ hL hsh _
  exact contract H enc W base args ds gs before hval hW

/-- The statement. -/
theorem said : Rows.SunMovesSaid :=
  OpenClaim.holds_of_cond 6 Try.f6 rfl rfl rfl rfl rfl rfl rfl ⟨rfl, rfl, rfl, rfl, rfl⟩ rfl rfl rfl rfl rfl (by kernel_rfl) Try.func6 (by kernel_rfl)
    (of_decide_eq_true (by kernel_rfl)) (by unfold Func.isWrapper; first | (rw [if_pos (by decide +kernel)]; kernel_rfl) | (rw [if_neg (by decide +kernel)]; exact ⟨rfl, rfl⟩))
    (fun os started H enc _ F => by rw [OpenClaim.pre_eq_preRow]; exact lifted os started H enc F)
end Go.Proofs.Ytjjimbaogpmbmaa.LawMov
