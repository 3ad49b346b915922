/-
  SightOrder.
-/
import Derived.Test.YtjjimbaogpmbmaaSgtZE
import Derived.Test.YtjjimbaogpmbmaaShpY
import Derived.Test.YtjjimbaogpmbmaaSgtZD
import Derived.Test.YtjjimbaogpmbmaaSgtZV
import Derived.Test.YtjjimbaogpmbmaaRows
import Derived.ProofKit
import Derived.OpenShut
import Derived.Deep.DeepHandedRow
import Derived.Deep.DeepWitnessRowRef
import Derived.MakeChecks
import Derived.Deep.DeepCutAuto
import Derived.Deep.QuietTactic
import Derived.BigQuiet
namespace Go.Proofs.Ytjjimbaogpmbmaa.LawOrder
open Go.RowKit Go.Sort
open Go.RowKit (Below)
set_option linter.unusedVariables false
set_option linter.unusedSimpArgs false
attribute [local go_sem] Oper.semAt_some

theorem gd4_rev {T : List Q4} {k : Nat} (h : k < T.length) : gd4 T.reverse k = gd4 T (T.length - 1 - k) := by
  rw [gd4_at (by rw [List.length_reverse]; exact h), gd4_at (by omega), List.getElem_reverse]
theorem gdB_rev {T : List Bv} {k : Nat} (h : k < T.length) : gdB T.reverse k = gdB T (T.length - 1 - k) := by
  rw [gdB_at (by rw [List.length_reverse]; exact h), gdB_at (by omega), List.getElem_reverse]
theorem rev4_step {T : List Q4} {k : Nat} (h : k < T.length) : T.reverse.take k ++ [gd4 T (T.length - 1 - k)] = T.reverse.take (k + 1) := by
  rw [List.take_succ_eq_append_getElem (by rw [List.length_reverse]; exact h), ← gd4_at, gd4_rev h]
theorem revB_step {T : List Bv} {k : Nat} (h : k < T.length) : T.reverse.take k ++ [gdB T (T.length - 1 - k)] = T.reverse.take (k + 1) := by
  rw [List.take_succ_eq_append_getElem (by rw [List.length_reverse]; exact h), ← gdB_at, gdB_rev h]
theorem rev_take {α : Type} (T : List α) : T.reverse.take T.length = T.reverse := List.take_of_length_le (by rw [List.length_reverse]; exact Nat.le_refl _)
theorem app_row4 {u : World} {B : Nat} {e : TypeId} {v : Value} {L M : List Q4} {x : Q4} (h : u.ownsRow B e 4 v (L.length + 1) (flt q4c L ++ q4c x)) (hM : L ++ [x] = M) : u.ownsRow B e 4 v M.length (flt q4c M) := by
  subst hM
  rw [List.length_append, ← flt_snoc]
  exact h
theorem app_rowB {u : World} {B : Nat} {e : TypeId} {v : Value} {L M : List Bv} {x : Bv} (h : u.ownsRow B e 3 v (L.length + 1) (flt bvc L ++ bvc x)) (hM : L ++ [x] = M) : u.ownsRow B e 3 v M.length (flt bvc M) := by
  subst hM
  rw [List.length_append, ← flt_snoc]
  exact h
theorem app_bel {V wr u : World} {o : Obj} {e : TypeId} {size n : Nat} {v : Value} {xs : List Value} (hb : Below V.heap.size V wr) (own : wr.ownsRow V.heap.size e size v n xs) (gr : (wr.alloc o).grownBy u v.ownBlock) : Below V.heap.size V u :=
  app_below (on_below hb (below_new wr o)) (Nat.le_trans hb.size (below_new wr o).size) (own.alloc o) (Nat.le_refl _) gr
theorem idx_facts {l k n : Nat} (hl : l ≤ 102) (hn : l - 1 - k = n) (hk : k < l) : n < l ∧ (n : Int) < l ∧ wrap64 ((l : Int) - 1) = (l : Int) - 1 ∧ IntKind.i64.wrap ((l : Int) - 1) = (l : Int) - 1 ∧ (l : Int) - 1 - (k : Int) = (n : Int) ∧ wrap64 (n : Int) = (n : Int) ∧ IntKind.i64.wrap (n : Int) = (n : Int) ∧ IntKind.i64.wrap ((k : Int) + 1) = (k : Int) + 1 ∧ wrap64 ((k : Int) + 1) = (k : Int) + 1 :=
  ⟨by omega, by omega, wrp2 ⟨by omega, by omega⟩, wrp1 ⟨by omega, by omega⟩, by omega, wrp2 ⟨by omega, by omega⟩, wrp1 ⟨by omega, by omega⟩, wrp1 ⟨by omega, by omega⟩, wrp2 ⟨by omega, by omega⟩⟩
theorem own_take0 {α : Type} (w : World) (B : Nat) (e : TypeId) (size : Nat) (R : List α) (f : α → List Value) : w.ownsRow B e size (.slice none 0 0) (R.take 0).length (flt f (R.take 0)) := by
  rw [List.take_zero]; exact World.ownsRow_nil _ _ _ _
theorem src_new (w : World) (cs : Array Value) (t : TypeId) : Src (w.alloc (.cells cs t)) (some ⟨w.heap.size, 0, none⟩) cs.toList := fun j u hu => ⟨_, rfl, World.news_of_block (World.alloc_heap_new w _) j u hu⟩
section
variable {ex ey ez : Int} {T : List Q4} {L : List Bv}
theorem sls_rev {w : World} {A : Option Addr} (h : BdS w A L) : ∀ i, i < L.reverse.length → SlS w (gdB L.reverse i).A (gdB L.reverse i).xs := by
  intro i hi
  rw [List.length_reverse] at hi
  obtain ⟨_, _, _, _, _, _, hs⟩ := h (L.length - 1 - i) (by omega)
  rw [gdB_rev hi]; exact hs
theorem bds_rev (h : Bds L) : Bds L.reverse := fun i hi => by
  rw [List.length_reverse] at hi
  rw [gdB_rev hi]; exact h _ (by omega)
theorem bds_rev' : Bds L.reverse ↔ Bds L := ⟨fun h => by have := bds_rev h; rwa [List.reverse_reverse] at this, bds_rev⟩
theorem tok_rev (h : Tok T) : Tok T.reverse := ⟨by rw [List.length_reverse]; exact h.1, fun i hi => by
  rw [List.length_reverse] at hi
  rw [gd4_rev hi]; exact h.2 _ (by omega)⟩
theorem tok_rev' : Tok T.reverse ↔ Tok T := ⟨fun h => by have := tok_rev h; rwa [List.reverse_reverse] at this, tok_rev⟩
theorem sut_rev (h : Sut ex ey ez T) : Sut ex ey ez T.reverse := ⟨h.1, fun i hi => by
  rw [List.length_reverse] at hi
  rw [gd4_rev hi]; exact h.2 _ (by omega)⟩
theorem sut_rev' : Sut ex ey ez T.reverse ↔ Sut ex ey ez T := ⟨fun h => by have := sut_rev h; rwa [List.reverse_reverse] at this, sut_rev⟩
theorem wrg_revT {E : Int} (h : Wrg ex ey ez T L E) : Wrg ex ey ez T.reverse L E := by
  unfold Wrg at *
  rw [List.length_reverse, tok_rev', sut_rev']
  exact h
theorem wrg_revL {E : Int} (h : Wrg ex ey ez T L E) : Wrg ex ey ez T L.reverse E := by
  unfold Wrg at *
  rw [List.length_reverse, bds_rev']
  exact h
theorem lin_i {x y z : Int} (i j : Int) : (lin ex ey ez x y z L i).b = (lin ex ey ez x y z L j).b ∧ (lin ex ey ez x y z L i).c = (lin ex ey ez x y z L j).c ∧ (lin ex ey ez x y z L i).d = (lin ex ey ez x y z L j).d := by unfold lin; split <;> exact ⟨rfl, rfl, rfl⟩
theorem lns_rev {k : Nat} (h : k < T.length) : (gd4 (lns ex ey ez T.reverse L) (T.length - 1 - k)).b = (gd4 (lns ex ey ez T L) k).b ∧ (gd4 (lns ex ey ez T.reverse L) (T.length - 1 - k)).c = (gd4 (lns ex ey ez T L) k).c ∧ (gd4 (lns ex ey ez T.reverse L) (T.length - 1 - k)).d = (gd4 (lns ex ey ez T L) k).d := by
  rw [lns_at (by rw [List.length_reverse]; omega), lns_at h, gd4_rev (by omega), show T.length - 1 - (T.length - 1 - k) = k by omega]
  exact lin_i _ _
theorem frs_rev {x y z : Int} : frs ex ey ez x y z L.reverse = L.reverse.length ↔ frs ex ey ez x y z L = L.length := by
  rw [frs_len, frs_len]
  constructor
  · intro h j hj
    have := h (L.length - 1 - j) (by rw [List.length_reverse]; omega)
    rwa [gdB_rev (by omega), show L.length - 1 - (L.length - 1 - j) = j by omega] at this
  · intro h j hj
    rw [List.length_reverse] at hj
    rw [gdB_rev hj]; exact h _ (by omega)
theorem lns_revL {k : Nat} (h : k < T.length) : (gd4 (lns ex ey ez T L.reverse) k).b = -1 ↔ (gd4 (lns ex ey ez T L) k).b = -1 := by
  rw [lns_at h, lns_at h, (lin_b _).1, (lin_b _).1, frs_rev]
end
set_option maxRecDepth 100000 in
set_option maxHeartbeats 4000000 in
theorem ord_0 (ex ey ez : Int) (tA : Option Addr) (tC : Nat) (t : List Q4) (bA : Option Addr) (bC : Nat) (b : List Bv) (h4 : t.length ≤ 9223372036854775807) (h5 : b.length ≤ 9223372036854775807) (h6 : ∀ k, k < b.length → (gdB b k).xs.length ≤ 9223372036854775807) (hf : ¬ Few t.length b) (w : World) (ht : S4 w tA t) (hm : BdS w bA b) :
    Calls Try.prog 11 #[.agg #[.int .i64 ex, .int .i64 ey, .int .i64 ez], .slice tA t.length tC, .slice bA b.length bC] w fun e_ w' => e_ = .returned (.bool true) ∧ Below w.heap.size w w' := by
  have HF := Lib.hid (fun W (h : BdS W bA b) => few9_is tA tC t bA bC b h4 h5 h6 false (by simp [hf]) W h)
  have HT := Lib.hid ht
  clear ht
  have HM := Lib.hid hm
  clear hm
  go_enter Try.func11, Try.ntmps11
  go_wp2_with fail
  obtain ⟨w1, hw1⟩ : ∃ V, (w.alloc (.cells #[.int .i64 ex, .int .i64 ey, .int .i64 ez] 27)) = V := ⟨_, rfl⟩
  obtain ⟨hB_, kp⟩ := boxes1 _ _ hw1
  rw [hw1]
  clear hw1
  have HB := Lib.hid hB_
  clear hB_
  have p0 := (cells3 kp).1
  have p1 := (cells3 kp).2.1
  have p2 := (cells3 kp).2.2
  have lp := block_lt p0
  replace HT := Lib.hid (HT.out.below HB.out)
  replace HM := Lib.hid (HM.out.below HB.out)
  with_reducible refine (head9_any _).mono ?_
  rintro e_ w2 ⟨rfl, hb⟩
  replace HB := Lib.hid (on_below HB.out hb)
  replace HT := Lib.hid (HT.out.below hb)
  replace HM := Lib.hid (HM.out.below hb)
  replace p0 := keepc hb p0
  replace p1 := keepc hb p1
  replace p2 := keepc hb p2
  replace kp := blk_on kp hb
  replace lp := Nat.lt_of_lt_of_le lp hb.size
  clear hb
  go_wp2_with fail
  with_reducible refine (HF.out _ HM.out).mono ?_
  rintro e_ w3 ⟨rfl, hb⟩
  replace HB := Lib.hid (on_below HB.out hb)
  replace HT := Lib.hid (HT.out.below hb)
  replace HM := Lib.hid (HM.out.below hb)
  replace p0 := keepc hb p0
  replace p1 := keepc hb p1
  replace p2 := keepc hb p2
  replace kp := blk_on kp hb
  replace lp := Nat.lt_of_lt_of_le lp hb.size
  clear hb
  go_wp2_with fail
  go_ret
  exact ⟨rfl, HB.out⟩
theorem bsm_rev {L : List Bv} (h : Bsm L) : Bsm L.reverse := fun i hi => by
  rw [List.length_reverse] at hi
  rw [gdB_rev hi]; exact h _ (by omega)
set_option maxRecDepth 100000 in
set_option maxHeartbeats 4000000 in
theorem ord_1 (ex ey ez : Int) (tA : Option Addr) (tC : Nat) (t : List Q4) (bA : Option Addr) (bC : Nat) (b : List Bv) (h4 : t.length ≤ 9223372036854775807) (h5 : b.length ≤ 9223372036854775807) (h6 : ∀ k, k < b.length → (gdB b k).xs.length ≤ 9223372036854775807) (hf : Few t.length b) (E : Int) (hE : Wrg ex ey ez t b E) (h0 : E ≠ 0) (w : World) (ht : S4 w tA t) (hm : BdS w bA b) :
    Calls Try.prog 11 #[.agg #[.int .i64 ex, .int .i64 ey, .int .i64 ez], .slice tA t.length tC, .slice bA b.length bC] w fun e_ w' => e_ = .returned (.bool true) ∧ Below w.heap.size w w' := by
  have HF := Lib.hid (fun W (h : BdS W bA b) => few9_is tA tC t bA bC b h4 h5 h6 true (by simp [hf]) W h)
  have C1 := Lib.hid (fun W (x : S4 W tA t) (c : BdS W bA b) => lines_0 ex ey ez tA tC t bA bC b h4 h5 E hE h0 (fun _ _ => few_bsm hf) W x c)
  have C2 := Lib.hid (fun mA mC W (x : S4 W mA t.reverse) (c : BdS W bA b) => lines_0 ex ey ez mA mC t.reverse bA bC b (by rw [List.length_reverse]; exact h4) h5 E (wrg_revT hE) h0 (fun _ _ => few_bsm hf) W x c)
  have C3 := Lib.hid (fun nA nC W (x : S4 W tA t) (c : BdS W nA b.reverse) => lines_0 ex ey ez tA tC t nA nC b.reverse h4 (by rw [List.length_reverse]; exact h5) E (wrg_revL hE) h0 (fun _ _ => bsm_rev (few_bsm hf)) W x c)
  simp only [List.length_reverse] at C2 C3
  have lt0 := hf.1
  have lb0 := hf.2.1
  obtain ⟨i0, hi0, hz0, hz1, hz2⟩ := info_of (show (Try.prog.info? 74).map (fun i => (i.zero, i.size, i.bytes)) = some (some (.agg #[.int .i64 0, .int .i64 0, .int .i64 0, .int .i64 0]), 4, 32) by kernel_rfl)
  obtain ⟨i1, hi1, hy0, hy1, hy2⟩ := info_of (show (Try.prog.info? 42).map (fun i => (i.zero, i.size, i.bytes)) = some (some (.agg #[.slice none 0 0, .int .i64 0, .int .i64 0]), 3, 40) by kernel_rfl)
  clear hf hE h0 h4 h5 h6
  have HT := Lib.hid ht
  clear ht
  have HM := Lib.hid hm
  clear hm
  go_enter Try.func11, Try.ntmps11
  go_wp2_with fail
  obtain ⟨w1, hw1⟩ : ∃ V, (w.alloc (.cells #[.int .i64 ex, .int .i64 ey, .int .i64 ez] 27)) = V := ⟨_, rfl⟩
  obtain ⟨hB_, kp⟩ := boxes1 _ _ hw1
  rw [hw1]
  clear hw1
  have HB := Lib.hid hB_
  clear hB_
  have p0 := (cells3 kp).1
  have p1 := (cells3 kp).2.1
  have p2 := (cells3 kp).2.2
  have lp := block_lt p0
  replace HT := Lib.hid (HT.out.below HB.out)
  replace HM := Lib.hid (HM.out.below HB.out)
  with_reducible refine (head9_any _).mono ?_
  rintro e_ w2 ⟨rfl, hb⟩
  replace HB := Lib.hid (on_below HB.out hb)
  replace HT := Lib.hid (HT.out.below hb)
  replace HM := Lib.hid (HM.out.below hb)
  replace p0 := keepc hb p0
  replace p1 := keepc hb p1
  replace p2 := keepc hb p2
  replace kp := blk_on kp hb
  replace lp := Nat.lt_of_lt_of_le lp hb.size
  clear hb
  go_wp2_with fail
  with_reducible refine (HF.out _ HM.out).mono ?_
  rintro e_ w3 ⟨rfl, hb⟩
  replace HB := Lib.hid (on_below HB.out hb)
  replace HT := Lib.hid (HT.out.below hb)
  replace HM := Lib.hid (HM.out.below hb)
  replace p0 := keepc hb p0
  replace p1 := keepc hb p1
  replace p2 := keepc hb p2
  replace kp := blk_on kp hb
  replace lp := Nat.lt_of_lt_of_le lp hb.size
  clear hb
  go_wp2_with fail
  go_loopw [8, 29] (fun v i wr => ∃ k : Nat, k ≤ t.length ∧ i = .int .i64 k ∧ Hid (wr.ownsRow w3.heap.size 74 4 v (t.reverse.take k).length (flt q4c (t.reverse.take k))) ∧ Below w3.heap.size w3 wr) (fun _ i _ => t.length - (intOf i).toNat)
  case atStart => exact ⟨0, Nat.zero_le _, rfl, own_take0 _ _ _ _ _ _, Below.refl _ _⟩
  case round =>
    obtain ⟨k, hk, rfl, HO, hW⟩ := hrel
    by_cases hlt : k < t.length
    · have hln : (t.reverse.take k).length ≤ 200 := by rw [List.length_take, List.length_reverse]; omega
      have hm1 : (t.reverse.take k).length + 1 ≤ maxLen := by unfold maxLen; omega
      have hm2 : ((t.reverse.take k).length + 1) * 32 ≤ 140737488355328 := by omega
      obtain ⟨n, hn⟩ : ∃ n, t.length - 1 - k = n := ⟨_, rfl⟩
      obtain ⟨hn1, hn2, v1_, v2_, v3_, v4_, v5_, w1_, w2_⟩ := idx_facts (show t.length ≤ 102 by omega) hn hlt
      obtain ⟨b0, o0, rfl, e0, e1, e2, e3⟩ := HT.out.below hW n hn1
      have HS_ := Lib.hid (rev4_step (T := t) hlt)
      rw [hn] at HS_
      clear hn
      generalize gd4 t n = q at *
      obtain ⟨qa, qb, qc, qd⟩ := q
      dsimp only at e0 e1 e2 e3
      have HW := Lib.hid hW
      clear hW
      go_wp2_with (at_builtin; refine wpList_app _ rfl (.tmp 32) (.tmp 41) 57 rfl w3.heap.size 74 i0 _ 4 32 Try.underlying57 hi0 hz0 hz1 hz2 rfl (by decide) _ _ _ rfl (HO.out.alloc _) (some ⟨wr.heap.size, 0, none⟩) 1 1 [.int .i64 qa, .int .i64 qb, .int .i64 qc, .int .i64 qd] rfl rfl (src_new wr #[.int .i64 qa, .int .i64 qb, .int .i64 qc, .int .i64 qd] 74) (q4c_one ⟨qa, qb, qc, qd⟩) hm1 hm2 (Nat.le_trans HW.out.size (below_new _ _).size) ?_; intro v1 u1 own1_ gr1; have hb1 := app_bel HW.out HO.out gr1; have own1 := app_row4 (x := ⟨qa, qb, qc, qd⟩) own1_ HS_.out; clear gr1 own1_)
      go_roundw
      case rel => exact ⟨k + 1, hlt, int_of (by first | rfl | exact w1_ | exact w2_), own1, hb1⟩
      case measure => simp [intOf, w1_, w2_]; clear w1_ w2_ v1_ v2_ v3_ v4_ v5_; omega
    · have hke : k = t.length := Nat.le_antisymm hk (Nat.le_of_not_lt hlt)
      subst hke
      rw [rev_take t] at HO
      have hb := hW
      clear hW
      replace HB := Lib.hid (on_below HB.out hb)
      replace HT := Lib.hid (HT.out.below hb)
      replace HM := Lib.hid (HM.out.below hb)
      replace p0 := keepc hb p0
      replace p1 := keepc hb p1
      replace p2 := keepc hb p2
      replace kp := blk_on kp hb
      replace lp := Nat.lt_of_lt_of_le lp hb.size
      clear hb
      obtain ⟨mA, mC, rfl, _, _, _, hms⟩ := own_s4 HO.out
      have HR := Lib.hid hms
      clear HO hms
      go_wp2_with fail
      generalize wr = w4 at *
      go_loopw [10, 46] (fun v i wr => ∃ k : Nat, k ≤ b.length ∧ i = .int .i64 k ∧ Hid (wr.ownsRow w4.heap.size 42 3 v (b.reverse.take k).length (flt bvc (b.reverse.take k))) ∧ Below w4.heap.size w4 wr) (fun _ i _ => b.length - (intOf i).toNat)
      case atStart => exact ⟨0, Nat.zero_le _, rfl, own_take0 _ _ _ _ _ _, Below.refl _ _⟩
      case round =>
        obtain ⟨k, hk, rfl, HO, hW⟩ := hrel
        by_cases hlt : k < b.length
        · have hln : (b.reverse.take k).length ≤ 200 := by rw [List.length_take, List.length_reverse]; omega
          have hm1 : (b.reverse.take k).length + 1 ≤ maxLen := by unfold maxLen; omega
          have hm2 : ((b.reverse.take k).length + 1) * 40 ≤ 140737488355328 := by omega
          obtain ⟨n, hn⟩ : ∃ n, b.length - 1 - k = n := ⟨_, rfl⟩
          obtain ⟨hn1, hn2, v1_, v2_, v3_, v4_, v5_, w1_, w2_⟩ := idx_facts (show b.length ≤ 102 by omega) hn hlt
          obtain ⟨b0, o0, rfl, e0, e1, e2, _⟩ := HM.out.below hW n hn1
          have HS_ := Lib.hid (revB_step (T := b) hlt)
          rw [hn] at HS_
          clear hn
          generalize gdB b n = q at *
          obtain ⟨qA, qC, qx, ql, qh⟩ := q
          dsimp only at e0 e1 e2
          have HW := Lib.hid hW
          clear hW
          go_wp2_with (at_builtin; refine wpList_app _ rfl (.tmp 49) (.tmp 58) 34 rfl w4.heap.size 42 i1 _ 3 40 Try.underlying34 hi1 hy0 hy1 hy2 rfl (by decide) _ _ _ rfl (HO.out.alloc _) (some ⟨wr.heap.size, 0, none⟩) 1 1 [.slice qA qx.length qC, .int .i64 ql, .int .i64 qh] rfl rfl (src_new wr #[.slice qA qx.length qC, .int .i64 ql, .int .i64 qh] 42) (bvc_one ⟨qA, qC, qx, ql, qh⟩) hm1 hm2 (Nat.le_trans HW.out.size (below_new _ _).size) ?_; intro v1 u1 own1_ gr1; have hb1 := app_bel HW.out HO.out gr1; have own1 := app_rowB (x := ⟨qA, qC, qx, ql, qh⟩) own1_ HS_.out; clear gr1 own1_)
          go_roundw
          case rel => exact ⟨k + 1, hlt, int_of (by first | rfl | exact w1_ | exact w2_), own1, hb1⟩
          case measure => simp [intOf, w1_, w2_]; clear w1_ w2_ v1_ v2_ v3_ v4_ v5_; omega
        · have hke : k = b.length := Nat.le_antisymm hk (Nat.le_of_not_lt hlt)
          subst hke
          rw [rev_take b] at HO
          have hb := hW
          clear hW
          replace HB := Lib.hid (on_below HB.out hb)
          replace HT := Lib.hid (HT.out.below hb)
          replace HM := Lib.hid (HM.out.below hb)
          replace HR := Lib.hid (HR.out.below hb)
          replace p0 := keepc hb p0
          replace p1 := keepc hb p1
          replace p2 := keepc hb p2
          replace kp := blk_on kp hb
          replace lp := Nat.lt_of_lt_of_le lp hb.size
          clear hb
          obtain ⟨nA, nC, rfl, _, _, _, hns⟩ := own_bds HO.out (sls_rev HM.out)
          have HN := Lib.hid hns
          clear HO hns
          go_wp2_with fail
          with_reducible refine (C1.out _ HT.out HM.out).mono ?_
          rintro e_ w5 ⟨rfl, hb⟩
          replace HB := Lib.hid (on_below HB.out hb)
          replace HT := Lib.hid (HT.out.below hb)
          replace HM := Lib.hid (HM.out.below hb)
          replace HR := Lib.hid (HR.out.below hb)
          replace HN := Lib.hid (HN.out.below hb)
          replace p0 := keepc hb p0
          replace p1 := keepc hb p1
          replace p2 := keepc hb p2
          replace kp := blk_on kp hb
          replace lp := Nat.lt_of_lt_of_le lp hb.size
          clear hb
          go_wp2_with fail
          with_reducible refine (C2.out _ _ _ HR.out HM.out).mono ?_
          rintro e_ w6 ⟨rfl, hb⟩
          replace HB := Lib.hid (on_below HB.out hb)
          replace HT := Lib.hid (HT.out.below hb)
          replace HM := Lib.hid (HM.out.below hb)
          replace HR := Lib.hid (HR.out.below hb)
          replace HN := Lib.hid (HN.out.below hb)
          replace p0 := keepc hb p0
          replace p1 := keepc hb p1
          replace p2 := keepc hb p2
          replace kp := blk_on kp hb
          replace lp := Nat.lt_of_lt_of_le lp hb.size
          clear hb
          go_wp2_with fail
          with_reducible refine (C3.out _ _ _ HT.out HN.out).mono ?_
          rintro e_ w7 ⟨rfl, hb⟩
          replace HB := Lib.hid (on_below HB.out hb)
          replace HT := Lib.hid (HT.out.below hb)
          replace HM := Lib.hid (HM.out.below hb)
          replace HR := Lib.hid (HR.out.below hb)
          replace HN := Lib.hid (HN.out.below hb)
          replace p0 := keepc hb p0
          replace p1 := keepc hb p1
          replace p2 := keepc hb p2
          replace kp := blk_on kp hb
          replace lp := Nat.lt_of_lt_of_le lp hb.size
          clear hb
          go_wp2_with fail
          go_loopw [7, 106] (fun u i wz => i = .int .i64 0 ∧ u = .bool true ∧ Below w7.heap.size w7 wz) (fun _ _ _ => 0)
          case atStart => exact ⟨rfl, rfl, Below.refl _ _⟩
          case round =>
            obtain ⟨rfl, rfl, hb⟩ := hrel
            go_wp2_with fail
            go_ret
            exact ⟨rfl, on_below HB.out hb⟩
set_option maxRecDepth 100000 in
set_option maxHeartbeats 4000000 in
theorem ord_2 (ex ey ez : Int) (tA : Option Addr) (tC : Nat) (t : List Q4) (bA : Option Addr) (bC : Nat) (b : List Bv) (h4 : t.length ≤ 9223372036854775807) (h5 : b.length ≤ 9223372036854775807) (h6 : ∀ k, k < b.length → (gdB b k).xs.length ≤ 9223372036854775807) (hf : Few t.length b) (hE : Wrg ex ey ez t b 0) (w : World) (ht : S4 w tA t) (hm : BdS w bA b) :
    Calls Try.prog 11 #[.agg #[.int .i64 ex, .int .i64 ey, .int .i64 ez], .slice tA t.length tC, .slice bA b.length bC] w fun e_ w' => e_ = .returned (.bool true) ∧ Below w.heap.size w w' := by
  have HF := Lib.hid (fun W (h : BdS W bA b) => few9_is tA tC t bA bC b h4 h5 h6 true (by simp [hf]) W h)
  have C1 := Lib.hid (fun W (x : S4 W tA t) (c : BdS W bA b) => lines_1 ex ey ez tA tC t bA bC b h4 h5 hE W x c)
  have C2 := Lib.hid (fun mA mC W (x : S4 W mA t.reverse) (c : BdS W bA b) => lines_1 ex ey ez mA mC t.reverse bA bC b (by rw [List.length_reverse]; exact h4) h5 (wrg_revT hE) W x c)
  have C3 := Lib.hid (fun nA nC W (x : S4 W tA t) (c : BdS W nA b.reverse) => lines_1 ex ey ez tA tC t nA nC b.reverse h4 (by rw [List.length_reverse]; exact h5) (wrg_revL hE) W x c)
  simp only [List.length_reverse] at C2 C3
  have lt0 := hf.1
  have lb0 := hf.2.1
  obtain ⟨i0, hi0, hz0, hz1, hz2⟩ := info_of (show (Try.prog.info? 74).map (fun i => (i.zero, i.size, i.bytes)) = some (some (.agg #[.int .i64 0, .int .i64 0, .int .i64 0, .int .i64 0]), 4, 32) by kernel_rfl)
  obtain ⟨i1, hi1, hy0, hy1, hy2⟩ := info_of (show (Try.prog.info? 42).map (fun i => (i.zero, i.size, i.bytes)) = some (some (.agg #[.slice none 0 0, .int .i64 0, .int .i64 0]), 3, 40) by kernel_rfl)
  clear hf hE h4 h5 h6
  have HT := Lib.hid ht
  clear ht
  have HM := Lib.hid hm
  clear hm
  go_enter Try.func11, Try.ntmps11
  go_wp2_with fail
  obtain ⟨w1, hw1⟩ : ∃ V, (w.alloc (.cells #[.int .i64 ex, .int .i64 ey, .int .i64 ez] 27)) = V := ⟨_, rfl⟩
  obtain ⟨hB_, kp⟩ := boxes1 _ _ hw1
  rw [hw1]
  clear hw1
  have HB := Lib.hid hB_
  clear hB_
  have p0 := (cells3 kp).1
  have p1 := (cells3 kp).2.1
  have p2 := (cells3 kp).2.2
  have lp := block_lt p0
  replace HT := Lib.hid (HT.out.below HB.out)
  replace HM := Lib.hid (HM.out.below HB.out)
  with_reducible refine (head9_any _).mono ?_
  rintro e_ w2 ⟨rfl, hb⟩
  replace HB := Lib.hid (on_below HB.out hb)
  replace HT := Lib.hid (HT.out.below hb)
  replace HM := Lib.hid (HM.out.below hb)
  replace p0 := keepc hb p0
  replace p1 := keepc hb p1
  replace p2 := keepc hb p2
  replace kp := blk_on kp hb
  replace lp := Nat.lt_of_lt_of_le lp hb.size
  clear hb
  go_wp2_with fail
  with_reducible refine (HF.out _ HM.out).mono ?_
  rintro e_ w3 ⟨rfl, hb⟩
  replace HB := Lib.hid (on_below HB.out hb)
  replace HT := Lib.hid (HT.out.below hb)
  replace HM := Lib.hid (HM.out.below hb)
  replace p0 := keepc hb p0
  replace p1 := keepc hb p1
  replace p2 := keepc hb p2
  replace kp := blk_on kp hb
  replace lp := Nat.lt_of_lt_of_le lp hb.size
  clear hb
  go_wp2_with fail
  go_loopw [8, 29] (fun v i wr => ∃ k : Nat, k ≤ t.length ∧ i = .int .i64 k ∧ Hid (wr.ownsRow w3.heap.size 74 4 v (t.reverse.take k).length (flt q4c (t.reverse.take k))) ∧ Below w3.heap.size w3 wr) (fun _ i _ => t.length - (intOf i).toNat)
  case atStart => exact ⟨0, Nat.zero_le _, rfl, own_take0 _ _ _ _ _ _, Below.refl _ _⟩
  case round =>
    obtain ⟨k, hk, rfl, HO, hW⟩ := hrel
    by_cases hlt : k < t.length
    · have hln : (t.reverse.take k).length ≤ 200 := by rw [List.length_take, List.length_reverse]; omega
      have hm1 : (t.reverse.take k).length + 1 ≤ maxLen := by unfold maxLen; omega
      have hm2 : ((t.reverse.take k).length + 1) * 32 ≤ 140737488355328 := by omega
      obtain ⟨n, hn⟩ : ∃ n, t.length - 1 - k = n := ⟨_, rfl⟩
      obtain ⟨hn1, hn2, v1_, v2_, v3_, v4_, v5_, w1_, w2_⟩ := idx_facts (show t.length ≤ 102 by omega) hn hlt
      obtain ⟨b0, o0, rfl, e0, e1, e2, e3⟩ := HT.out.below hW n hn1
      have HS_ := Lib.hid (rev4_step (T := t) hlt)
      rw [hn] at HS_
      clear hn
      generalize gd4 t n = q at *
      obtain ⟨qa, qb, qc, qd⟩ := q
      dsimp only at e0 e1 e2 e3
      have HW := Lib.hid hW
      clear hW
      go_wp2_with (at_builtin; refine wpList_app _ rfl (.tmp 32) (.tmp 41) 57 rfl w3.heap.size 74 i0 _ 4 32 Try.underlying57 hi0 hz0 hz1 hz2 rfl (by decide) _ _ _ rfl (HO.out.alloc _) (some ⟨wr.heap.size, 0, none⟩) 1 1 [.int .i64 qa, .int .i64 qb, .int .i64 qc, .int .i64 qd] rfl rfl (src_new wr #[.int .i64 qa, .int .i64 qb, .int .i64 qc, .int .i64 qd] 74) (q4c_one ⟨qa, qb, qc, qd⟩) hm1 hm2 (Nat.le_trans HW.out.size (below_new _ _).size) ?_; intro v1 u1 own1_ gr1; have hb1 := app_bel HW.out HO.out gr1; have own1 := app_row4 (x := ⟨qa, qb, qc, qd⟩) own1_ HS_.out; clear gr1 own1_)
      go_roundw
      case rel => exact ⟨k + 1, hlt, int_of (by first | rfl | exact w1_ | exact w2_), own1, hb1⟩
      case measure => simp [intOf, w1_, w2_]; clear w1_ w2_ v1_ v2_ v3_ v4_ v5_; omega
    · have hke : k = t.length := Nat.le_antisymm hk (Nat.le_of_not_lt hlt)
      subst hke
      rw [rev_take t] at HO
      have hb := hW
      clear hW
      replace HB := Lib.hid (on_below HB.out hb)
      replace HT := Lib.hid (HT.out.below hb)
      replace HM := Lib.hid (HM.out.below hb)
      replace p0 := keepc hb p0
      replace p1 := keepc hb p1
      replace p2 := keepc hb p2
      replace kp := blk_on kp hb
      replace lp := Nat.lt_of_lt_of_le lp hb.size
      clear hb
      obtain ⟨mA, mC, rfl, _, _, _, hms⟩ := own_s4 HO.out
      have HR := Lib.hid hms
      clear HO hms
      go_wp2_with fail
      generalize wr = w4 at *
      go_loopw [10, 46] (fun v i wr => ∃ k : Nat, k ≤ b.length ∧ i = .int .i64 k ∧ Hid (wr.ownsRow w4.heap.size 42 3 v (b.reverse.take k).length (flt bvc (b.reverse.take k))) ∧ Below w4.heap.size w4 wr) (fun _ i _ => b.length - (intOf i).toNat)
      case atStart => exact ⟨0, Nat.zero_le _, rfl, own_take0 _ _ _ _ _ _, Below.refl _ _⟩
      case round =>
        obtain ⟨k, hk, rfl, HO, hW⟩ := hrel
        by_cases hlt : k < b.length
        · have hln : (b.reverse.take k).length ≤ 200 := by rw [List.length_take, List.length_reverse]; omega
          have hm1 : (b.reverse.take k).length + 1 ≤ maxLen := by unfold maxLen; omega
          have hm2 : ((b.reverse.take k).length + 1) * 40 ≤ 140737488355328 := by omega
          obtain ⟨n, hn⟩ : ∃ n, b.length - 1 - k = n := ⟨_, rfl⟩
          obtain ⟨hn1, hn2, v1_, v2_, v3_, v4_, v5_, w1_, w2_⟩ := idx_facts (show b.length ≤ 102 by omega) hn hlt
          obtain ⟨b0, o0, rfl, e0, e1, e2, _⟩ := HM.out.below hW n hn1
          have HS_ := Lib.hid (revB_step (T := b) hlt)
          rw [hn] at HS_
          clear hn
          generalize gdB b n = q at *
          obtain ⟨qA, qC, qx, ql, qh⟩ := q
          dsimp only at e0 e1 e2
          have HW := Lib.hid hW
          clear hW
          go_wp2_with (at_builtin; refine wpList_app _ rfl (.tmp 49) (.tmp 58) 34 rfl w4.heap.size 42 i1 _ 3 40 Try.underlying34 hi1 hy0 hy1 hy2 rfl (by decide) _ _ _ rfl (HO.out.alloc _) (some ⟨wr.heap.size, 0, none⟩) 1 1 [.slice qA qx.length qC, .int .i64 ql, .int .i64 qh] rfl rfl (src_new wr #[.slice qA qx.length qC, .int .i64 ql, .int .i64 qh] 42) (bvc_one ⟨qA, qC, qx, ql, qh⟩) hm1 hm2 (Nat.le_trans HW.out.size (below_new _ _).size) ?_; intro v1 u1 own1_ gr1; have hb1 := app_bel HW.out HO.out gr1; have own1 := app_rowB (x := ⟨qA, qC, qx, ql, qh⟩) own1_ HS_.out; clear gr1 own1_)
          go_roundw
          case rel => exact ⟨k + 1, hlt, int_of (by first | rfl | exact w1_ | exact w2_), own1, hb1⟩
          case measure => simp [intOf, w1_, w2_]; clear w1_ w2_ v1_ v2_ v3_ v4_ v5_; omega
        · have hke : k = b.length := Nat.le_antisymm hk (Nat.le_of_not_lt hlt)
          subst hke
          rw [rev_take b] at HO
          have hb := hW
          clear hW
          replace HB := Lib.hid (on_below HB.out hb)
          replace HT := Lib.hid (HT.out.below hb)
          replace HM := Lib.hid (HM.out.below hb)
          replace HR := Lib.hid (HR.out.below hb)
          replace p0 := keepc hb p0
          replace p1 := keepc hb p1
          replace p2 := keepc hb p2
          replace kp := blk_on kp hb
          replace lp := Nat.lt_of_lt_of_le lp hb.size
          clear hb
          obtain ⟨nA, nC, rfl, _, _, _, hns⟩ := own_bds HO.out (sls_rev HM.out)
          have HN := Lib.hid hns
          clear HO hns
          go_wp2_with fail
          with_reducible refine (C1.out _ HT.out HM.out).mono ?_
          rintro e_ w5 ⟨g0, rfl, hs0, hb⟩
          replace HB := Lib.hid (on_below HB.out hb)
          replace HT := Lib.hid (HT.out.below hb)
          replace HM := Lib.hid (HM.out.below hb)
          replace HR := Lib.hid (HR.out.below hb)
          replace HN := Lib.hid (HN.out.below hb)
          replace p0 := keepc hb p0
          replace p1 := keepc hb p1
          replace p2 := keepc hb p2
          replace kp := blk_on kp hb
          replace lp := Nat.lt_of_lt_of_le lp hb.size
          clear hb
          have HL := Lib.hid hs0
          clear hs0
          go_wp2_with fail
          with_reducible refine (C2.out _ _ _ HR.out HM.out).mono ?_
          rintro e_ w6 ⟨g1, rfl, hs1, hb⟩
          replace HB := Lib.hid (on_below HB.out hb)
          replace HT := Lib.hid (HT.out.below hb)
          replace HM := Lib.hid (HM.out.below hb)
          replace HR := Lib.hid (HR.out.below hb)
          replace HN := Lib.hid (HN.out.below hb)
          replace HL := Lib.hid (HL.out.below hb)
          replace p0 := keepc hb p0
          replace p1 := keepc hb p1
          replace p2 := keepc hb p2
          replace kp := blk_on kp hb
          replace lp := Nat.lt_of_lt_of_le lp hb.size
          clear hb
          have HK := Lib.hid hs1
          clear hs1
          go_wp2_with fail
          with_reducible refine (C3.out _ _ _ HT.out HN.out).mono ?_
          rintro e_ w7 ⟨g2, rfl, hs2, hb⟩
          replace HB := Lib.hid (on_below HB.out hb)
          replace HT := Lib.hid (HT.out.below hb)
          replace HM := Lib.hid (HM.out.below hb)
          replace HR := Lib.hid (HR.out.below hb)
          replace HN := Lib.hid (HN.out.below hb)
          replace HL := Lib.hid (HL.out.below hb)
          replace HK := Lib.hid (HK.out.below hb)
          replace p0 := keepc hb p0
          replace p1 := keepc hb p1
          replace p2 := keepc hb p2
          replace kp := blk_on kp hb
          replace lp := Nat.lt_of_lt_of_le lp hb.size
          clear hb
          have HJ := Lib.hid hs2
          clear hs2
          go_wp2_with fail
          go_loopw [7, 106] (fun u i wr => ∃ k : Nat, k ≤ t.length ∧ i = .int .i64 k ∧ u = .bool true ∧ Below w7.heap.size w7 wr) (fun _ i _ => t.length - (intOf i).toNat)
          case atStart => exact ⟨0, Nat.zero_le _, rfl, rfl, Below.refl _ _⟩
          case round =>
            obtain ⟨k, hk, rfl, rfl, hW⟩ := hrel
            by_cases hlt : k < t.length
            · have e5 : (k : Int) < t.length := Int.ofNat_lt.2 hlt
              obtain ⟨n, hn⟩ : ∃ n, t.length - 1 - k = n := ⟨_, rfl⟩
              obtain ⟨hn1, hn2, v1_, v2_, v3_, v4_, v5_, w1_, w2_⟩ := idx_facts (show t.length ≤ 102 by omega) hn hlt
              obtain ⟨b0, o0, d4, d0, d1, d2, d3⟩ := HL.out.below hW k (by rw [lns_len]; exact hlt)
              obtain ⟨rfl, rfl⟩ : g0 = b0 ∧ 0 = o0 := by simpa using d4
              obtain ⟨b1, o1, f4, f0, f1, f2, f3⟩ := HK.out.below hW n (by rw [lns_len, List.length_reverse]; exact hn1)
              obtain ⟨rfl, rfl⟩ : g1 = b1 ∧ 0 = o1 := by simpa using f4
              obtain ⟨b2, o2, j4, j0, j1, j2, j3⟩ := HJ.out.below hW k (by rw [lns_len]; exact hlt)
              obtain ⟨rfl, rfl⟩ : g2 = b2 ∧ 0 = o2 := by simpa using j4
              have hq1 := lns_rev (ex := ex) (ey := ey) (ez := ez) (T := t) (L := b) hlt
              rw [hn] at hq1
              have hq2 := lns_revL (ex := ex) (ey := ey) (ez := ez) (T := t) (L := b) hlt
              clear hn
              have HW := Lib.hid hW
              clear hW d4 f4 j4
              simp only [Nat.zero_add] at d0 d1 d2 d3 f0 f1 f2 f3 j0 j1 j2 j3
              generalize gd4 (lns ex ey ez t b) k = u at *
              generalize gd4 (lns ex ey ez t.reverse b) n = y at *
              generalize gd4 (lns ex ey ez t b.reverse) k = v at *
              obtain ⟨ua, ub, uc, ud⟩ := u
              obtain ⟨ya, yb, yc, yd⟩ := y
              obtain ⟨va, vb, vc, vd⟩ := v
              dsimp only at d0 d1 d2 d3 f0 f1 f2 f3 j0 j1 j2 j3 hq1 hq2
              obtain ⟨rfl, rfl, rfl⟩ := hq1
              have HQ := Lib.hid hq2
              clear hq2
              have ho : Below wr.heap.size wr ((wr.alloc (.cells #[.int .i64 ua, .int .i64 yb, .int .i64 yc, .int .i64 yd] 70)).alloc (.cells #[.int .i64 ya, .int .i64 yb, .int .i64 yc, .int .i64 yd] 70)) := (boxes2 wr _ _ rfl).1
              have n0 : World.cell? ((wr.alloc (.cells #[.int .i64 ua, .int .i64 yb, .int .i64 yc, .int .i64 yd] 70)).alloc (.cells #[.int .i64 ya, .int .i64 yb, .int .i64 yc, .int .i64 yd] 70)) ⟨wr.heap.size, 0, none⟩ = some (.int .i64 ua) := by simp [go_sem]
              have n1 : World.cell? ((wr.alloc (.cells #[.int .i64 ua, .int .i64 yb, .int .i64 yc, .int .i64 yd] 70)).alloc (.cells #[.int .i64 ya, .int .i64 yb, .int .i64 yc, .int .i64 yd] 70)) ⟨wr.heap.size, 1, none⟩ = some (.int .i64 yb) := by simp [go_sem]
              have n2 : World.cell? ((wr.alloc (.cells #[.int .i64 ua, .int .i64 yb, .int .i64 yc, .int .i64 yd] 70)).alloc (.cells #[.int .i64 ya, .int .i64 yb, .int .i64 yc, .int .i64 yd] 70)) ⟨wr.heap.size, 2, none⟩ = some (.int .i64 yc) := by simp [go_sem]
              have n3 : World.cell? ((wr.alloc (.cells #[.int .i64 ua, .int .i64 yb, .int .i64 yc, .int .i64 yd] 70)).alloc (.cells #[.int .i64 ya, .int .i64 yb, .int .i64 yc, .int .i64 yd] 70)) ⟨wr.heap.size, 3, none⟩ = some (.int .i64 yd) := by simp [go_sem]
              have m0 : World.cell? ((wr.alloc (.cells #[.int .i64 ua, .int .i64 yb, .int .i64 yc, .int .i64 yd] 70)).alloc (.cells #[.int .i64 ya, .int .i64 yb, .int .i64 yc, .int .i64 yd] 70)) ⟨wr.heap.size + 1, 0, none⟩ = some (.int .i64 ya) := by simp [go_sem]
              have m1 : World.cell? ((wr.alloc (.cells #[.int .i64 ua, .int .i64 yb, .int .i64 yc, .int .i64 yd] 70)).alloc (.cells #[.int .i64 ya, .int .i64 yb, .int .i64 yc, .int .i64 yd] 70)) ⟨wr.heap.size + 1, 1, none⟩ = some (.int .i64 yb) := by simp [go_sem]
              have m2 : World.cell? ((wr.alloc (.cells #[.int .i64 ua, .int .i64 yb, .int .i64 yc, .int .i64 yd] 70)).alloc (.cells #[.int .i64 ya, .int .i64 yb, .int .i64 yc, .int .i64 yd] 70)) ⟨wr.heap.size + 1, 2, none⟩ = some (.int .i64 yc) := by simp [go_sem]
              have m3 : World.cell? ((wr.alloc (.cells #[.int .i64 ua, .int .i64 yb, .int .i64 yc, .int .i64 yd] 70)).alloc (.cells #[.int .i64 ya, .int .i64 yb, .int .i64 yc, .int .i64 yd] 70)) ⟨wr.heap.size + 1, 3, none⟩ = some (.int .i64 yd) := by simp [go_sem]
              have x0 := keepc ho j0
              have x1 := keepc ho j1
              have x2 := keepc ho j2
              have x3 := keepc ho j3
              have HO := Lib.hid ho
              have z0 := keepc (below_new wr (.cells #[.int .i64 ua, .int .i64 yb, .int .i64 yc, .int .i64 yd] 70)) f0
              have z1 := keepc (below_new wr (.cells #[.int .i64 ua, .int .i64 yb, .int .i64 yc, .int .i64 yd] 70)) f1
              have z2 := keepc (below_new wr (.cells #[.int .i64 ua, .int .i64 yb, .int .i64 yc, .int .i64 yd] 70)) f2
              have z3 := keepc (below_new wr (.cells #[.int .i64 ua, .int .i64 yb, .int .i64 yc, .int .i64 yd] 70)) f3
              clear ho
              have er := fun W => rat_eq (a := yc) (b := yd) (x := yc) (y := yd) (r := true) (by simp) W
              obtain ⟨q, hq⟩ : ∃ q, (yb == -1) = q := ⟨_, rfl⟩
              have hv : (vb == -1) = q := by rw [← hq, Bool.eq_iff_iff]; simp only [beq_iff_eq]; exact HQ.out
              clear HQ
              have sz1 := below_new wr (.cells #[.int .i64 ua, .int .i64 yb, .int .i64 yc, .int .i64 yd] 70)
              have sz2 := sz1.size
              clear sz1
              cases q
              · go_wp2_with fail
                generalize (wr.alloc (.cells #[.int .i64 ua, .int .i64 yb, .int .i64 yc, .int .i64 yd] 70)).alloc (.cells #[.int .i64 ya, .int .i64 yb, .int .i64 yc, .int .i64 yd] 70) = wz at *
                go_quiet (fail)
                go_wp2_with fail
                go_roundw
                case rel => exact ⟨k + 1, hlt, int_of (by first | rfl | exact w1_ | exact w2_), rfl, below_drewN' (HW.out.trans (HO.out.mono HW.out.size)) _⟩
                case measure => simp [intOf, w1_, w2_]; clear w1_ w2_ v1_ v2_ v3_ v4_ v5_; omega
              · go_wp2_with fail
                generalize (wr.alloc (.cells #[.int .i64 ua, .int .i64 yb, .int .i64 yc, .int .i64 yd] 70)).alloc (.cells #[.int .i64 ya, .int .i64 yb, .int .i64 yc, .int .i64 yd] 70) = wz at *
                go_quiet (fail)
                go_wp2_with fail
                go_roundw
                case rel => exact ⟨k + 1, hlt, int_of (by first | rfl | exact w1_ | exact w2_), rfl, below_drewN' (HW.out.trans (HO.out.mono HW.out.size)) _⟩
                case measure => simp [intOf, w1_, w2_]; clear w1_ w2_ v1_ v2_ v3_ v4_ v5_; omega
            · have hke : k = t.length := Nat.le_antisymm hk (Nat.le_of_not_lt hlt)
              subst hke
              go_wp2_with fail
              go_ret
              exact ⟨rfl, on_below HB.out hW⟩
theorem law_any (ex ey ez : Int) (tA : Option Addr) (tC : Nat) (t : List Q4) (bA : Option Addr) (bC : Nat) (b : List Bv) (w : World) (lt : L4 w tA tC t) (lb : LB w bA bC b) :
    Calls Try.prog 11 #[.agg #[.int .i64 ex, .int .i64 ey, .int .i64 ez], .slice tA t.length tC, .slice bA b.length bC] w fun e_ w' => e_ = .returned (.bool true) ∧ Below w.heap.size w w' := by
  have h4 : t.length ≤ 9223372036854775807 := Nat.le_trans lt.cap.1 lt.cap.2
  have h5 : b.length ≤ 9223372036854775807 := Nat.le_trans lb.cap.1 lb.cap.2
  have h6 := lb.len
  by_cases hf : Few t.length b
  · obtain ⟨E, hE⟩ := wrg_ex ex ey ez t b
    by_cases h0 : E = 0
    · subst h0
      exact ord_2 ex ey ez tA tC t bA bC b h4 h5 h6 hf hE w lt.sl lb.sl
    · exact ord_1 ex ey ez tA tC t bA bC b h4 h5 h6 hf E hE h0 w lt.sl lb.sl
  · exact ord_0 ex ey ez tA tC t bA bC b h4 h5 h6 hf w lt.sl lb.sl
/-! ### The row -/
open Go.ChangeShapes Go.WideShapes Go.ChangeAt Go.Joins
theorem own : ownKnob Try.prog.godebug = none := by kernel_rfl
noncomputable def laidWorld (os : Os) : World := World.holding Try.prog os ⟨#[], #[], []⟩
theorem laidWorld_met (os : Os) (args : Array Value) : laidMet Try.prog [] ((laidWorld os).forCall (fun _ _ => 0) ⟨#[], args, []⟩).memory :=
  laidMet_of_run' 8 (by kernel_rfl) (by kernel_rfl)

set_option maxRecDepth 100000 in
theorem contract (H : Type) (enc : TypeId × Value → H) (W : World) (base : Nat) (args : Array Value) (ds gs : List (DataW H)) (before : List MemPlace)
    (hval : ∀ (j : Nat) t v, Try.f11.params[j]? = some t → args[j]? = some v → Value.okWide Try.prog W .any base t v)
    (hW : DataW.Whole enc Try.prog Try.f11.params.toList Rows.sightOrderSpec.vars false W args.toList ds gs before) :
    Calls Try.prog 11 args W fun e W' => ∃ v, e = .returned v ∧ Rows.sightOrderSpec.post enc Try.prog Try.f11 false true false false W args v W' := by
  have hW' := hW
  have hold : ∀ q ∈ before, decide (q.block < W.heap.size) = true := fun q hq => by simpa using hW.lt q hq
  obtain ⟨p, q, hA0, hV, rfl, hfz, hnd⟩ := hW
  have hA : DataW.TrodAll enc Try.prog W 0 (fun _ => true) true Try.f11.params.toList args.toList ds p := hA0
  rw [Try.params11] at hA hval
  obtain ⟨v0, vs0, d0, ds0, p0, q0, hargs, rfl, rfl, h0, r0⟩ := trodAll_cons hA
  obtain ⟨v1, vs1, d1, ds1, p1, q1, rfl, rfl, rfl, h1, r1⟩ := trodAll_cons r0
  obtain ⟨v2, vs2, d2, ds2, p2, q2, rfl, rfl, rfl, h2, r2⟩ := trodAll_cons r1
  obtain ⟨rfl, rfl, rfl⟩ := trodAll_nil r2
  obtain rfl : args = #[v0, v1, v2] := Array.toList_inj.1 hargs
  obtain ⟨rfl, rfl⟩ := trodVars_none hV
  obtain ⟨ex, ey, ez, rfl, rfl, rfl, iex, iey, iez⟩ := open_vec (hval 0 27 v0 rfl rfl) h0
  obtain ⟨tA, tC, t, rfl, lt, shutt⟩ := open_targets (hval 1 57 v1 rfl rfl) h1
  obtain ⟨bA, bC, b, rfl, lb, shutb⟩ := open_bodies (hval 2 34 v2 rfl rfl) h2
  clear hA0
  refine (law_any ex ey ez tA tC t bA bC b W lt lb).mono fun e W' ⟨he, bel⟩ => ?_
  subst he
  exact ⟨_, rfl, _, _, _, [], _, [], hW', trodAll_mk1 (shut_bool Try.underlying4 _), (trodAll_cons_mk (shut_vec iex iey iez) (trodAll_cons_mk (shutt W' (fun b => decide (b < W.heap.size)) bel (fun q hq => hold q (by simp [hq]))) (trodAll_cons_mk (shutb W' (fun b => decide (b < W.heap.size)) bel (fun q hq => hold q (by simp [hq]))) trodAll_mk0))), rfl, bel.frame _, fun h => by cases h⟩

theorem reads (os : Os) {H : Type} (enc : TypeId × Value → H) : ∃ places, DataW.whole enc Try.prog ((laidWorld os).forCall (fun _ _ => 0) ⟨#[], #[.agg #[.int .i64 0, .int .i64 0, .int .i64 0], .slice none 0 0, .slice none 0 0], []⟩).memory Try.f11.params.toList Rows.sightOrderSpec.vars false (#[.agg #[.int .i64 0, .int .i64 0, .int .i64 0], .slice none 0 0, .slice none 0 0] : Array Value).toList 8 = some ([.agg [.lit (.int .i64 0), .lit (.int .i64 0), .lit (.int .i64 0)], .nil, .nil], [], places) :=
  ⟨[], by kernel_rfl⟩

set_option maxRecDepth 100000 in
theorem lifted (os : Os) (started : os.Started) (H : Type) (enc : TypeId × Value → H) (F : Stop.Interp) :
    ReturnsInHanded {} Try.checked os 11 .any ((OpenSpec.ofChange Rows.sightOrderSpec).preRow enc Try.prog Try.f11 Rows.sightOrderRow.domain false Rows.sightOrderRow.laid) (((OpenSpec.ofChange Rows.sightOrderSpec).at F).post enc Try.prog Try.f11 false true false false) := by
  obtain ⟨places, hx⟩ := reads os enc
  refine returnsInHanded_of_row (C := Try.checked) (s := OpenSpec.ofChange Rows.sightOrderSpec) own started (by kernel_rfl) Try.func11
    (witness_row_atRef (enc := enc) (C := Try.checked) false (laidWorld os) #[.agg #[.int .i64 0, .int .i64 0, .int .i64 0], .slice none 0 0, .slice none 0 0] rfl (by kernel_rfl) (by kernel_rfl) (by kernel_rfl)
      (OpenSpec.preRow_of_cond 8 hx (by kernel_rfl) (fun k hk => by cases hk) (by kernel_rfl) (laidWorld_met os _))) ?_
  intro W base args ds gs before hval hW _ hcond _ hL hsh _
  exact contract H enc W base args ds gs before hval hW

/-- The statement. -/
theorem said : Rows.SightOrderSaid :=
  OpenClaim.holds_of_cond 11 Try.f11 rfl rfl rfl rfl rfl rfl rfl ⟨rfl, rfl, rfl, rfl, rfl⟩ rfl rfl rfl rfl rfl (by kernel_rfl) Try.func11 (by kernel_rfl)
    (of_decide_eq_true (by kernel_rfl)) (by unfold Func.isWrapper; first | (rw [if_pos (by decide +kernel)]; kernel_rfl) | (rw [if_neg (by decide +kernel)]; exact ⟨rfl, rfl⟩))
    (fun os started H enc _ F => by rw [OpenClaim.pre_eq_preRow]; exact lifted os started H enc F)
end Go.Proofs.Ytjjimbaogpmbmaa.LawOrder
