/-
  Package shape: Inside.
-/
import Derived.Test.YtgikpcoaennkgaaZShpPS
import Derived.Test.YtgikpcoaennkgaaZShpPG
namespace Go.Proofs.Ytgikpcoaennkgaa
open Go.RowKit Go.Sort Go.Shelf
open Go.RowKit (Below)
set_option linter.unusedVariables false
set_option linter.unusedSimpArgs false

attribute [local go_sem] Oper.semAt_some
theorem blk_on {W W' : World} {g : Nat} {o : Obj} (h : W.heap[g]? = some o) (hb : Below W.heap.size W W') : W'.heap[g]? = some o := by rw [hb.block g (Array.getElem?_eq_some_iff.1 h).1]; exact h
theorem blk_row {W W' : World} {row : Option Nat} {g : Nat} {cs : Array Value} {t : TypeId} {fz : Nat × Nat} (h : W.heap[g]? = some (.cells cs t fz)) (hg : W.grownBy W' row) (hr : ∀ r, row = some r → ∃ o : Obj, W.heap[r]? = some o ∧ o.isCells = false) : W'.heap[g]? = some (.cells cs t fz) := by
  rw [hg.block g (Array.getElem?_eq_some_iff.1 h).1 (fun e => by obtain ⟨o, ho, hc⟩ := hr g e.symm; rw [h] at ho; cases ho; cases hc)]; exact h
theorem blk_far {W : World} {g g' i : Nat} {o : Obj} {u : Value} (h : W.heap[g]? = some o) (hne : g ≠ g') : (W.setCell ⟨g', i, none⟩ u).heap[g]? = some o := by rw [Below.heap_setCell W ⟨g', i, none⟩ u g hne]; exact h
theorem blk_new {W : World} {g : Nat} {o : Obj} (h : W.heap[g]? = some o) (o' : Obj) : (W.alloc o').heap[g]? = some o := (Below.heap_alloc _ _ _ (Array.getElem?_eq_some_iff.1 h).1).trans h
theorem allocs4 (W : World) (o0 o1 o2 o3 : Obj) {V : World} (hV : (((W.alloc o0).alloc o1).alloc o2).alloc o3 = V) :
    Below W.heap.size W V ∧ V.heap.size = W.heap.size + 4 ∧ V.heap[W.heap.size]? = some o0 ∧ V.heap[W.heap.size + 1]? = some o1 ∧ V.heap[W.heap.size + 2]? = some o2 ∧ V.heap[W.heap.size + 3]? = some o3 := by
  subst hV
  have nb : ∀ (U : World) (k : Nat) (o : Obj), U.heap.size = k → (U.alloc o).heap[k]? = some o := fun U k o h => by subst h; exact World.alloc_heap_new U o
  refine ⟨((((Below.refl _ W).alloc (Nat.le_refl _) _).alloc (by simp) _).alloc (by simp; omega) _).alloc (by simp; omega) _, by simp, ?_, ?_, ?_, ?_⟩
  · exact blk_new (blk_new (blk_new (nb _ _ _ rfl) _) _) _
  · exact blk_new (blk_new (nb _ _ _ (by simp)) _) _
  · exact blk_new (nb _ _ _ (by simp)) _
  · exact nb _ _ _ (by simp)
theorem sides_enter (args : Array Value) (W : World) : (callFunc 48 args).run Try.prog W = .ok (.enter 48 args) W := by simp [go_sem]
/-- Inside's own blocks: the point, the two results. -/
structure In (g : Nat) (a b c : Int) (R : Bool) (E : Int) (w0 : World) (p : Prop) (W : World) : Prop where
  v : W.heap[g + 1]? = some (.cells #[.int .i64 a, .int .i64 b, .int .i64 c] 26 (0, 0))
  r : Boxed W (g + 2) 4 (.bool R)
  e : Boxed W (g + 3) 29 (.int .i64 E)
  bel : Below w0.heap.size w0 W
  hp : p
section
variable {g : Nat} {a b c : Int} {R R' : Bool} {E E' : Int} {w0 : World} {p q : Prop} {W W' : World}
theorem In.on (h : In g a b c R E w0 p W) (hb : Below W.heap.size W W') : In g a b c R E w0 p W' := ⟨blk_on h.v hb, blk_on h.r hb, blk_on h.e hb, on_below h.bel hb, h.hp⟩
theorem In.row {row : Option Nat} (h : In g a b c R E w0 p W) (hg : W.grownBy W' row) (hr : ∀ r, row = some r → w0.heap.size ≤ r ∧ ∃ o : Obj, W.heap[r]? = some o ∧ o.isCells = false) : In g a b c R E w0 p W' :=
  ⟨blk_row h.v hg (fun r e => (hr r e).2), box_row h.r hg (fun r e => (hr r e).2), box_row h.e hg (fun r e => (hr r e).2), h.bel.grown hg h.bel.size (fun j e => (hr j e).1), h.hp⟩
theorem In.own {B : Nat} {p : Nat → Prop} (hB : w0.heap.size ≤ B) : OwnFrom B (fun k W => In g a b c R E w0 (p k) W) :=
  fun k W W' row h hg hr => h.row hg (fun r e => ⟨Nat.le_trans hB (hr r e).1, (hr r e).2⟩)
theorem In.put (h : In g a b c R E w0 p W) (hg : w0.heap.size ≤ g) : In g a b c R' E' w0 p ((W.setCell ⟨g + 2, 0, none⟩ (.bool R')).setCell ⟨g + 3, 0, none⟩ (.int .i64 E')) :=
  ⟨blk_far (blk_far h.v (by omega)) (by omega), (h.r.set _).other (by omega) _, (h.e.other (by omega) _).set _, (h.bel.setCell (by show w0.heap.size ≤ g + 2; omega) _).setCell (by show w0.heap.size ≤ g + 3; omega) _, h.hp⟩
theorem In.st (h : In g a b c R E w0 p W) (hq : q) : In g a b c R E w0 q W := ⟨h.v, h.r, h.e, h.bel, hq⟩
end
/-- What is inside is behind no side. -/
theorem ins_dep {xs : List (Int × Int)} {lo hi a b c : Int} : InB xs lo hi a b c ↔ ∀ k, k < xs.length + 2 → 0 < dep xs lo hi k a b c := by
  unfold InB Ins
  constructor
  · rintro ⟨h1, h2, h3⟩ k hk
    unfold dep
    split
    · rename_i h; exact h1 k h
    · split <;> omega
  · intro h
    refine ⟨fun i hi => ?_, ?_, ?_⟩
    · have := h i (by omega)
      unfold dep at this
      rwa [if_pos hi] at this
    · have := h xs.length (by omega)
      unfold dep at this
      rw [if_neg (Nat.lt_irrefl _), if_pos rfl] at this
      omega
    · have := h (xs.length + 1) (by omega)
      unfold dep at this
      rw [if_neg (by omega), if_neg (by omega)] at this
      omega
set_option maxRecDepth 100000 in
set_option maxHeartbeats 4000000 in
theorem pin_1 (A : Option Addr) (C : Nat) (xs : List (Int × Int)) (lo hi a b c : Int) (hlx : xs.length ≤ 9223372036854775806) (hra : false = true ↔ Bok xs lo hi) (w : World) (hl : SlS w A xs) :
    Calls Try.prog 19 #[.agg #[.slice A xs.length C, .int .i64 lo, .int .i64 hi], .agg #[.int .i64 a, .int .i64 b, .int .i64 c]] w fun e_ w' => e_ = .returned (.tuple #[.bool false, .int .i64 1]) ∧ Below w.heap.size w w' := by
  have CA := Lib.hid (fun W (h : SlS W A xs) => pvalid_is A C xs lo hi hlx false hra W h)
  have HL := Lib.hid hl
  clear hra hl
  refine (callsIn_wide (n := 8)).1 ?_
  refine callsIn_of_wp_marks Try.func19 rfl trivial ?_ rfl
  simp only [Try.ntmps19, List.size_toArray, List.length_cons, List.length_nil, Nat.reduceAdd, Nat.reduceSub, Array.replicate_succ, Array.replicate_zero, List.push_toArray, List.append_toArray, List.nil_append, List.cons_append]
  have hmx : Try.prog.follows .mixedOrders = true := by kernel_rfl
  gi_wp2_with fail
  obtain ⟨w1, hw1⟩ : ∃ V, (((w.alloc (.cells #[.slice A xs.length C, .int .i64 lo, .int .i64 hi] 47)).alloc (.cells #[.int .i64 a, .int .i64 b, .int .i64 c] 26)).alloc (.cells #[.bool false] 4)).alloc (.cells #[.int .i64 0] 29) = V := ⟨_, rfl⟩
  obtain ⟨hb1, hs1, q0, q1, q2, q3⟩ := allocs4 _ _ _ _ _ hw1
  have HI := Lib.hid (show In w.heap.size a b c false 0 w True w1 from ⟨q1, q2, q3, hb1, trivial⟩)
  have HQ := Lib.hid q0
  have HL1 := Lib.hid (HL.out.below hb1)
  simp only [World.size_alloc, Nat.add_assoc, Nat.reduceAdd]
  rw [hw1]
  clear hw1 hb1 q0 q1 q2 q3 hs1
  refine ⟨trivial, (callsIn_wide.2 (CA.out w1 HL1.out)).mono ?_⟩
  rintro e w2 ⟨rfl, hb⟩
  replace HI := Lib.hid (HI.out.on hb)
  replace HQ := Lib.hid (blk_on HQ.out hb)
  clear hb HL1 CA
  have d0 := (cells3 HI.out.v).1
  have d1 := (cells3 HI.out.v).2.1
  have d2 := (cells3 HI.out.v).2.2
  have r0 := HI.out.r.cell
  have r1 := HI.out.r.frozen
  have e0 := HI.out.e.cell
  have e1 := HI.out.e.frozen
  have g0 := (HI.out.put (R' := false) (E' := 1) (Nat.le_refl _)).r.cell
  have g1 := (HI.out.put (R' := false) (E' := 1) (Nat.le_refl _)).e.cell
  have HF := Lib.hid (HI.out.put (R' := false) (E' := 1) (Nat.le_refl _)).bel
  gi_wp2
  refine ⟨trivial, ?_⟩
  gi_wp2
  exact ⟨.tuple #[.bool false, .int .i64 1], by simp [results, Try.results19, go_sem, g0, g1], rfl, HF.out⟩
set_option maxRecDepth 100000 in
set_option maxHeartbeats 4000000 in
theorem pin_2 (A : Option Addr) (C : Nat) (xs : List (Int × Int)) (lo hi a b c : Int) (hlx : xs.length ≤ 9223372036854775806) (hra : true = true ↔ Bok xs lo hi) (hrb : vv a b c = false) (w : World) (hl : SlS w A xs) :
    Calls Try.prog 19 #[.agg #[.slice A xs.length C, .int .i64 lo, .int .i64 hi], .agg #[.int .i64 a, .int .i64 b, .int .i64 c]] w fun e_ w' => e_ = .returned (.tuple #[.bool false, .int .i64 1]) ∧ Below w.heap.size w w' := by
  have CA := Lib.hid (fun W (h : SlS W A xs) => pvalid_is A C xs lo hi hlx true hra W h)
  have HL := Lib.hid hl
  clear hra hl
  refine (callsIn_wide (n := 8)).1 ?_
  refine callsIn_of_wp_marks Try.func19 rfl trivial ?_ rfl
  simp only [Try.ntmps19, List.size_toArray, List.length_cons, List.length_nil, Nat.reduceAdd, Nat.reduceSub, Array.replicate_succ, Array.replicate_zero, List.push_toArray, List.append_toArray, List.nil_append, List.cons_append]
  have hmx : Try.prog.follows .mixedOrders = true := by kernel_rfl
  gi_wp2_with fail
  obtain ⟨w1, hw1⟩ : ∃ V, (((w.alloc (.cells #[.slice A xs.length C, .int .i64 lo, .int .i64 hi] 47)).alloc (.cells #[.int .i64 a, .int .i64 b, .int .i64 c] 26)).alloc (.cells #[.bool false] 4)).alloc (.cells #[.int .i64 0] 29) = V := ⟨_, rfl⟩
  obtain ⟨hb1, hs1, q0, q1, q2, q3⟩ := allocs4 _ _ _ _ _ hw1
  have HI := Lib.hid (show In w.heap.size a b c false 0 w True w1 from ⟨q1, q2, q3, hb1, trivial⟩)
  have HQ := Lib.hid q0
  have HL1 := Lib.hid (HL.out.below hb1)
  simp only [World.size_alloc, Nat.add_assoc, Nat.reduceAdd]
  rw [hw1]
  clear hw1 hb1 q0 q1 q2 q3 hs1
  refine ⟨trivial, (callsIn_wide.2 (CA.out w1 HL1.out)).mono ?_⟩
  rintro e w2 ⟨rfl, hb⟩
  replace HI := Lib.hid (HI.out.on hb)
  replace HQ := Lib.hid (blk_on HQ.out hb)
  clear hb HL1 CA
  have d0 := (cells3 HI.out.v).1
  have d1 := (cells3 HI.out.v).2.1
  have d2 := (cells3 HI.out.v).2.2
  have r0 := HI.out.r.cell
  have r1 := HI.out.r.frozen
  have e0 := HI.out.e.cell
  have e1 := HI.out.e.frozen
  gi_wp2_with fail
  refine ⟨trivial, (callsIn_wide.2 (vvalid_is a b c false hrb w2)).mono ?_⟩
  rintro e w3 ⟨rfl, hb⟩
  replace HI := Lib.hid (HI.out.on hb)
  replace HQ := Lib.hid (blk_on HQ.out hb)
  clear hb d0 d1 d2 r0 r1 e0 e1
  have r0 := HI.out.r.cell
  have r1 := HI.out.r.frozen
  have e0 := HI.out.e.cell
  have e1 := HI.out.e.frozen
  have g0 := (HI.out.put (R' := false) (E' := 1) (Nat.le_refl _)).r.cell
  have g1 := (HI.out.put (R' := false) (E' := 1) (Nat.le_refl _)).e.cell
  have HF := Lib.hid (HI.out.put (R' := false) (E' := 1) (Nat.le_refl _)).bel
  gi_wp2
  exact ⟨.tuple #[.bool false, .int .i64 1], by simp [results, Try.results19, go_sem, g0, g1], rfl, HF.out⟩
set_option maxRecDepth 100000 in
set_option maxHeartbeats 4000000 in
theorem pin_3 (A : Option Addr) (C : Nat) (xs : List (Int × Int)) (lo hi a b c : Int) (hlx : xs.length ≤ 9223372036854775806) (hra : true = true ↔ Bok xs lo hi) (hrb : vv a b c = true) (r : Bool) (hr : r = true ↔ InB xs lo hi a b c) (w : World) (hl : SlS w A xs) :
    Calls Try.prog 19 #[.agg #[.slice A xs.length C, .int .i64 lo, .int .i64 hi], .agg #[.int .i64 a, .int .i64 b, .int .i64 c]] w fun e_ w' => e_ = .returned (.tuple #[.bool r, .int .i64 0]) ∧ Below w.heap.size w w' := by
  have BA := Lib.hid (hra.1 rfl)
  have VA := Lib.hid (vv_iff.1 hrb)
  have HR := Lib.hid hr
  clear hr
  have CA := Lib.hid (fun W (h : SlS W A xs) => pvalid_is A C xs lo hi hlx true hra W h)
  have HL := Lib.hid hl
  clear hra hl
  refine (callsIn_wide (n := 8)).1 ?_
  refine callsIn_of_wp_marks Try.func19 rfl trivial ?_ rfl
  simp only [Try.ntmps19, List.size_toArray, List.length_cons, List.length_nil, Nat.reduceAdd, Nat.reduceSub, Array.replicate_succ, Array.replicate_zero, List.push_toArray, List.append_toArray, List.nil_append, List.cons_append]
  have hmx : Try.prog.follows .mixedOrders = true := by kernel_rfl
  gi_wp2_with fail
  obtain ⟨w1, hw1⟩ : ∃ V, (((w.alloc (.cells #[.slice A xs.length C, .int .i64 lo, .int .i64 hi] 47)).alloc (.cells #[.int .i64 a, .int .i64 b, .int .i64 c] 26)).alloc (.cells #[.bool false] 4)).alloc (.cells #[.int .i64 0] 29) = V := ⟨_, rfl⟩
  obtain ⟨hb1, hs1, q0, q1, q2, q3⟩ := allocs4 _ _ _ _ _ hw1
  have HI := Lib.hid (show In w.heap.size a b c false 0 w True w1 from ⟨q1, q2, q3, hb1, trivial⟩)
  have HQ := Lib.hid q0
  have HL1 := Lib.hid (HL.out.below hb1)
  simp only [World.size_alloc, Nat.add_assoc, Nat.reduceAdd]
  rw [hw1]
  clear hw1 hb1 q0 q1 q2 q3 hs1
  refine ⟨trivial, (callsIn_wide.2 (CA.out w1 HL1.out)).mono ?_⟩
  rintro e w2 ⟨rfl, hb⟩
  replace HI := Lib.hid (HI.out.on hb)
  replace HQ := Lib.hid (blk_on HQ.out hb)
  clear hb HL1 CA
  have d0 := (cells3 HI.out.v).1
  have d1 := (cells3 HI.out.v).2.1
  have d2 := (cells3 HI.out.v).2.2
  have r0 := HI.out.r.cell
  have r1 := HI.out.r.frozen
  have e0 := HI.out.e.cell
  have e1 := HI.out.e.frozen
  gi_wp2_with fail
  refine ⟨trivial, (callsIn_wide.2 (vvalid_is a b c true hrb w2)).mono ?_⟩
  rintro e w3 ⟨rfl, hb⟩
  replace HI := Lib.hid (HI.out.on hb)
  replace HQ := Lib.hid (blk_on HQ.out hb)
  clear hb d0 d1 d2 r0 r1 e0 e1
  have r0 := HI.out.r.cell
  have r1 := HI.out.r.frozen
  have e0 := HI.out.e.cell
  have e1 := HI.out.e.frozen
  have c0 := (cells3 HQ.out).1
  have c1 := (cells3 HQ.out).2.1
  have c2 := (cells3 HQ.out).2.2
  gi_wp2_with fail
  refine ⟨trivial, (callsIn_wide.2 (sides_any A xs.length C lo hi w3)).mono ?_⟩
  rintro e w4 ⟨rfl, hw4⟩
  have hb : Below w3.heap.size w3 w4 := by rw [hw4]; exact below_new _ _
  have HBX := Lib.hid (show w4.heap[w3.heap.size]? = some (.cells #[.slice A xs.length C, .int .i64 lo, .int .i64 hi] 47 (0, 0)) by rw [hw4]; exact World.alloc_heap_new _ _)
  replace HI := Lib.hid (HI.out.on hb)
  clear hw4 hb r0 r1 e0 e1 c0 c1 c2 HQ
  generalize w3.heap.size = g3 at *
  clear w3
  have HSQ := Lib.hid (sides_seq 7 (by omega) g3 A C xs lo hi hlx (fun j hj => bok_co BA.out hj) BA.out.zl BA.out.zh w w4 HL.out HI.out.bel HBX.out)
  have hsz : w.heap.size + 3 < w4.heap.size := HI.out.e.lt
  gi_wp2_with fail
  refine range_n (gf := 48) (lb := #[.pointer (some ⟨g3, 0, none⟩)]) rfl sides_enter HSQ.out (Below.refl _ _) (fun k args W e => by obtain ⟨f, caps, e, _⟩ := e; rw [e]; rfl) Kz.trans (fun W l o o' hl h1 h2 => Kz.put o' (by omega) h1 h2)
    (fun k W => In w.heap.size a b c false 0 w (Hid (∀ j, j < k → 0 < dep xs lo hi j a b c)) W) (fun k W => In w.heap.size a b c false 0 w (Hid (¬ InB xs lo hi a b c)) W) (In.own (by omega)) (In.own (by omega))
    (HI.out.st (fun j hj => absurd hj (Nat.not_lt_zero j))) ?round ?done ?stop
  case round =>
    rintro l k args W hl hk hI ⟨f, caps, rfl, hen, hdep⟩
    have HN := Lib.hid hI
    have HD := Lib.hid hdep
    clear hI hdep HSQ HI
    have hsW : w.heap.size ≤ W.heap.size := HN.out.bel.size
    gi_wp2
    refine ⟨KeepsFrom.refl _ _, Kz.refl _, ?_⟩
    rintro o Wb ho hc hsome hg hoth
    have hrow : ∀ r, some l = some r → w.heap.size ≤ r ∧ ∃ o : Obj, W.heap[r]? = some o ∧ o.isCells = false := fun r e => by cases e; exact ⟨by omega, o, ho, hc⟩
    have HK := Lib.hid (show Kz w.heap.size 28 W Wb from (Kz.refl W).row hsW hg hrow)
    replace HN := Lib.hid (HN.out.row hg hrow)
    have d0 := (cells3 HN.out.v).1
    have d1 := (cells3 HN.out.v).2.1
    have d2 := (cells3 HN.out.v).2.2
    clear ho hc hsome hg hoth hrow
    generalize hs_ : dep xs lo hi k a b c = s
    have HS := Lib.hid hs_
    clear hs_
    gi_wp2_with fail
    refine ⟨trivial, (CallsIn.inRound l (callsIn_wide.2 (HD.out Wb a b c s HK.out VA.out HS.out))).mono ?_⟩
    rintro e W3 ⟨rfl, hb⟩
    have HN3 := Lib.hid (HN.out.on hb)
    have HK3 := Lib.hid (Kz.of (b := w.heap.size) (T := 28) hb HN.out.bel.size)
    have HF3 := Lib.hid (keeps_of (B := w4.heap.size) hb)
    clear hb d0 d1 d2 HD HN
    by_cases hz : s ≤ 0
    · have HP := Lib.hid (show ¬ InB xs lo hi a b c from fun h => by have := ins_dep.1 h k hk; rw [HS.out] at this; omega)
      have r0 := HN3.out.r.cell
      have r1 := HN3.out.r.frozen
      have e0 := HN3.out.e.cell
      have e1 := HN3.out.e.frozen
      clear HS
      gi_wp2
      exact ⟨(HF3.out.trans (keeps_set _ _)).trans (keeps_set _ _), (HN3.out.st (q := Hid (¬ InB xs lo hi a b c)) HP.out).put (Nat.le_refl _)⟩
    · have HP := Lib.hid (show ∀ j, j < k + 1 → 0 < dep xs lo hi j a b c from fun j hj => by by_cases e : j = k; (subst e; rw [HS.out]; omega); exact HN3.out.hp j (by omega))
      clear HS
      gi_wp2
      exact ⟨HF3.out, HK3.out, HN3.out.st HP.out⟩
  case done =>
    rintro D V hD hI hK
    have hf := true_of (HR.out.2 (ins_dep.2 fun k hk => hI.hp k hk))
    subst hf
    have r0 := hI.r.cell
    have r1 := hI.r.frozen
    have e0 := hI.e.cell
    have e1 := hI.e.frozen
    have hp := hI.put (R' := true) (E' := 0) (Nat.le_refl _)
    have k8 : ((V.setCell ⟨w.heap.size + 2, 0, none⟩ (.bool true)).setCell ⟨w.heap.size + 3, 0, none⟩ (.int .i64 0)).heap[D]? = some (.deferred (some [])) := (KeepsOthers.setCell _ _ _).same _ _ ((KeepsOthers.setCell _ _ _).same _ _ hK rfl) rfl
    have hq := hp.row (grownBy_putObj' _ D (.deferred none)) (fun r e => by cases e; exact ⟨by omega, _, k8, rfl⟩)
    have g0 := hq.r.cell
    have g1 := hq.e.cell
    have HF := Lib.hid hq.bel
    clear hI hp hq
    gi_wp2
    refine ⟨by simp, .inl ⟨_, _, rfl, run_takeDeferred k8, ?_⟩⟩
    exact ⟨.tuple #[.bool true, .int .i64 0], by simp [results, Try.results19, go_sem, g0, g1], rfl, HF.out⟩
  case stop =>
    rintro D k V hD hk hI hK
    have hf := false_of (r := r) fun e => hI.hp (HR.out.1 e)
    subst hf
    have hq := hI.row (grownBy_putObj' _ D (.deferred none)) (fun r e => by cases e; exact ⟨by omega, _, hK, rfl⟩)
    have g0 := hq.r.cell
    have g1 := hq.e.cell
    have HF := Lib.hid hq.bel
    clear hI hq
    gi_wp2
    refine ⟨by simp, .inl ⟨_, _, rfl, run_takeDeferred hK, ?_⟩⟩
    exact ⟨.tuple #[.bool false, .int .i64 0], by simp [results, Try.results19, go_sem, g0, g1], rfl, HF.out⟩
theorem pinside_is (A : Option Addr) (C : Nat) (xs : List (Int × Int)) (lo hi a b c : Int) (hlx : xs.length ≤ 9223372036854775806) (r : Bool) (E : Int) (hE : (Bok xs lo hi ∧ V3 a b c ∧ E = 0 ∧ (r = true ↔ InB xs lo hi a b c)) ∨ (¬ (Bok xs lo hi ∧ V3 a b c) ∧ E = 1 ∧ r = false)) (w : World) (hl : SlS w A xs) :
    Calls Try.prog 19 #[.agg #[.slice A xs.length C, .int .i64 lo, .int .i64 hi], .agg #[.int .i64 a, .int .i64 b, .int .i64 c]] w fun e_ w' => e_ = .returned (.tuple #[.bool r, .int .i64 E]) ∧ Below w.heap.size w w' := by
  rcases hE with ⟨ba, bv, rfl, hr⟩ | ⟨hn, rfl, rfl⟩
  · exact pin_3 A C xs lo hi a b c hlx ⟨fun _ => ba, fun _ => rfl⟩ (vv_iff.2 bv) r hr w hl
  · by_cases ba : Bok xs lo hi
    · cases bv : vv a b c
      · exact pin_2 A C xs lo hi a b c hlx ⟨fun _ => ba, fun _ => rfl⟩ bv w hl
      · exact absurd ⟨ba, vv_iff.1 bv⟩ hn
    · exact pin_1 A C xs lo hi a b c hlx ⟨(fun h => by cases h), fun h => absurd h ba⟩ w hl
end Go.Proofs.Ytgikpcoaennkgaa
