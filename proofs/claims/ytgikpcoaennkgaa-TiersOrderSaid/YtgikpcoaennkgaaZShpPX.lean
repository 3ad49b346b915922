/-
  Package shape: isConvex.
-/
import Derived.Test.YtgikpcoaennkgaaZShpPD
import Derived.Test.YtgikpcoaennkgaaZGenQ
namespace Go.Proofs.Ytgikpcoaennkgaa
open Go.RowKit Go.Sort Go.Shelf
open Go.RowKit (Below)
set_option linter.unusedVariables false
set_option linter.unusedSimpArgs false

attribute [local go_sem] Oper.semAt_some
/-- The corners to the left of an edge are all but its own two, exactly if it is as in a convex base. -/
theorem left_two {xs : List (Int × Int)} {k : Nat} (h3 : 3 ≤ xs.length) (hk : k < xs.length) : cnt (lef (px xs k) (py xs k) (px xs (nx xs.length k)) (py xs (nx xs.length k)) xs) xs.length = xs.length - 2 ↔ ∀ j, j < xs.length → j ≠ k → j ≠ nx xs.length k → 0 < tr (px xs) (py xs) k (nx xs.length k) j := by
  have ne : k ≠ nx xs.length k := by unfold nx; split <;> omega
  rw [cnt_two hk (nx_lt hk) ne (decide_eq_false (by unfold crs; grind)) (decide_eq_false (by unfold crs; grind))]
  exact ⟨fun h j hj h1 h2 => of_decide_eq_true (h j hj h1 h2), fun h j hj h1 h2 => decide_eq_true (h j hj h1 h2)⟩
set_option maxRecDepth 100000 in
set_option maxHeartbeats 4000000 in
theorem convex_is (A : Option Addr) (C : Nat) (xs : List (Int × Int)) (h3 : 3 ≤ xs.length) (hx : ∀ j, j < xs.length → co (px xs j) ∧ co (py xs j)) (lx : xs.length ≤ 9223372036854775806) (r : Bool) (hr : r = true ↔ Cvx xs.length (px xs) (py xs)) (w : World) (hl : SlS w A xs) :
    Calls Try.prog 45 #[.slice A xs.length C] w fun e_ w' => e_ = .returned (.bool r) ∧ Below w.heap.size w w' := by
  have HX := Lib.hid hx
  have HR := Lib.hid hr
  have HL := Lib.hid hl
  clear hx hr hl
  refine (callsIn_wide (n := 8)).1 ?_
  refine callsIn_of_wp_marks Try.func45 rfl trivial ?_ rfl
  simp only [Try.ntmps45, List.size_toArray, List.length_cons, List.length_nil, Nat.reduceAdd, Nat.reduceSub, Array.replicate_succ, Array.replicate_zero, List.push_toArray, List.append_toArray, List.nil_append, List.cons_append]
  have hmx : Try.prog.follows .mixedOrders = true := by kernel_rfl
  gi_wp2_with fail
  have HB := Lib.hid (show Below w.heap.size w ((w.alloc (.cells #[.slice A xs.length C] 45)).alloc (.cells #[.bool false] 4)) from ((Below.refl _ _).alloc (Nat.le_refl _) _).alloc (by simp) _)
  have x1 : Boxed ((w.alloc (.cells #[.slice A xs.length C] 45)).alloc (.cells #[.bool false] 4)) w.heap.size 45 (.slice A xs.length C) := (Boxed.new w _ _).alloc _
  have x2 : Boxed ((w.alloc (.cells #[.slice A xs.length C] 45)).alloc (.cells #[.bool false] 4)) (w.heap.size + 1) 4 (.bool false) := by have := Boxed.new (w.alloc (.cells #[.slice A xs.length C] 45)) 4 (.bool false); rwa [World.size_alloc] at this
  generalize (w.alloc (.cells #[.slice A xs.length C] 45)).alloc (.cells #[.bool false] 4) = w1 at *
  have HX1 := Lib.hid x1
  have HX2 := Lib.hid x2
  have c1 := x1.cell
  clear x1 x2
  refine ⟨trivial, (callsIn_wide.2 (edges_any A xs.length C w1)).mono ?_⟩
  rintro e w2 ⟨rfl, hw2⟩
  have hb2 : Below w1.heap.size w1 w2 := by rw [hw2]; exact below_new _ _
  have x3 : Boxed w2 w1.heap.size 45 (.slice A xs.length C) := by rw [hw2]; exact Boxed.new _ _ _
  replace HX1 := Lib.hid (HX1.out.kept (grown_of hb2) (by simp))
  replace HX2 := Lib.hid (HX2.out.kept (grown_of hb2) (by simp))
  replace HB := Lib.hid (on_below HB.out hb2)
  clear hw2 hb2 c1
  generalize w1.heap.size = g3 at *
  clear w1
  have hsz : w.heap.size + 1 < w2.heap.size := HX2.out.lt
  have HSQ := Lib.hid (edges_seq 7 (by omega) g3 A C xs lx w w2 HL.out HB.out x3)
  have HB0 := Lib.hid (show w.heap.size ≤ w2.heap.size by omega)
  gi_wp2_with fail
  refine range_n (gf := 70) (lb := #[.pointer (some ⟨g3, 0, none⟩)]) rfl edges_enter HSQ.out (Below.refl _ _) (fun k args W e => by rw [e]; rfl) Kz.trans (fun W l o o' hl h1 h2 => Kz.put o' (by omega) h1 h2)
    (fun k W => Bx w.heap.size A xs.length C false w (Hid (∀ i, i < k → ∀ j, j < xs.length → j ≠ i → j ≠ nx xs.length i → 0 < tr (px xs) (py xs) i (nx xs.length i) j)) W) (fun k W => Bx w.heap.size A xs.length C false w (Hid (¬ Cvx xs.length (px xs) (py xs))) W) (Bx.own (by omega)) (Bx.own (by omega))
    ⟨HX1.out, HX2.out, HB.out, fun j hj => absurd hj (Nat.not_lt_zero j)⟩ ?round ?done ?stop
  case round =>
    rintro l k args W hl hk hI rfl
    have HI := Lib.hid hI
    have hn1 := nx_lt hk
    have HC := Lib.hid (fun W n hn (h : SlS W A xs) => count_is (gdS xs k).1 (gdS xs k).2 (gdS xs (nx xs.length k)).1 (gdS xs (nx xs.length k)).2 (HX.out k hk).1 (HX.out k hk).2 (HX.out _ hn1).1 (HX.out _ hn1).2 A C xs HX.out lx n hn W h)
    have HE := Lib.hid (show (cnt (lef (gdS xs k).1 (gdS xs k).2 (gdS xs (nx xs.length k)).1 (gdS xs (nx xs.length k)).2 xs) xs.length = xs.length - 2) ↔ ∀ j, j < xs.length → j ≠ k → j ≠ nx xs.length k → 0 < tr (px xs) (py xs) k (nx xs.length k) j from left_two h3 hk)
    obtain ⟨q, hq⟩ : ∃ q, cnt (lef (gdS xs k).1 (gdS xs k).2 (gdS xs (nx xs.length k)).1 (gdS xs (nx xs.length k)).2 xs) xs.length = q := ⟨_, rfl⟩
    rw [hq] at HE
    have HQ := Lib.hid hq
    clear hI hq hn1 HSQ HX1 HX2 HB
    simp only [encE]
    generalize (gdS xs k).1 = x at *
    generalize (gdS xs k).2 = y at *
    generalize (gdS xs (nx xs.length k)).1 = u at *
    generalize (gdS xs (nx xs.length k)).2 = z at *
    have HWs := Lib.hid (show w.heap.size ≤ W.heap.size from HI.out.bel.size)
    gi_wp2
    have h2 := two_new W x y u z
    refine ⟨keeps_of h2, Kz.of h2 HWs.out, ?_⟩
    rintro o Wb ho hc hsome hg hoth
    have HT := Lib.hid (tn_of (Nat.le_trans HB0.out hl) ho hc hg)
    have d0 := HT.out.cell W.heap.size 0 (.int .i64 x) (by simp [go_sem])
    have d1 := HT.out.cell W.heap.size 1 (.int .i64 y) (by simp [go_sem])
    have d2 := HT.out.cell (W.heap.size + 1) 0 (.int .i64 u) (by simp [go_sem])
    have d3 := HT.out.cell (W.heap.size + 1) 1 (.int .i64 z) (by simp [go_sem])
    have HI2 := Lib.hid (HI.out.on h2 HI.out.hp)
    replace HI2 := Lib.hid (show Bx w.heap.size A xs.length C false w _ Wb from ⟨HT.out.box _ _ _ HI2.out.b, HT.out.box _ _ _ HI2.out.r, HI2.out.bel.trans HT.out.bel, HI2.out.hp⟩)
    have d4 := HI2.out.b.cell
    have HS := Lib.hid (HL.out.below HI2.out.bel)
    clear ho hc hsome hg hoth h2 HT HI
    have w1_ : IntKind.i64.wrap ((xs.length : Int) - 2) = (xs.length : Int) - 2 := IntWalk.i64_in _ ⟨by omega, by omega⟩
    have w2_ : wrap64 ((xs.length : Int) - 2) = (xs.length : Int) - 2 := IntWalk.wrap64_in _ ⟨by omega, by omega⟩
    gi_wp2_with fail
    refine region_round (S := fun V => V.cell? ⟨W.heap.size, 0, none⟩ = some (.int .i64 x) ∧ V.cell? ⟨W.heap.size, 1, none⟩ = some (.int .i64 y) ∧ V.cell? ⟨W.heap.size + 1, 0, none⟩ = some (.int .i64 u) ∧ V.cell? ⟨W.heap.size + 1, 1, none⟩ = some (.int .i64 z) ∧ V.cell? ⟨w.heap.size, 0, none⟩ = some (.slice A xs.length C)) hmx (by kernel_rfl) (by rintro ⟨a, w, h⟩; exact h) ⟨d0, d1, d2, d3, d4⟩ fun HL_ => ?_
    refine wpAnyH_take (i := 0) (v := .agg #[.int .i64 x, .int .i64 y]) rfl (by kernel_rfl) (by kernel_rfl) (by kernel_rfl) (fun _ _ _ h => h) (Or.inl ⟨by rfl, ?_⟩) HL_ ?_
    · rintro Wl ⟨s0, s1, s2, s3, s4⟩
      go_simp
    simp only [Act.put, List.setIfInBounds_toArray, List.set_cons_zero, List.set_cons_succ]
    refine wpAnyH_take (i := 1) (v := .agg #[.int .i64 u, .int .i64 z]) rfl (by kernel_rfl) (by kernel_rfl) (by kernel_rfl) (fun _ _ _ h => h) (Or.inl ⟨by rfl, ?_⟩) HL_ ?_
    · rintro Wl ⟨s0, s1, s2, s3, s4⟩
      go_simp
    simp only [Act.put, List.setIfInBounds_toArray, List.set_cons_zero, List.set_cons_succ]
    refine wpAnyH_take (i := 2) (v := .slice A xs.length C) rfl (by kernel_rfl) (by kernel_rfl) (by kernel_rfl) (fun _ _ _ h => h) (Or.inl ⟨by rfl, ?_⟩) HL_ ?_
    · rintro Wl ⟨s0, s1, s2, s3, s4⟩
      go_simp
    simp only [Act.put, List.setIfInBounds_toArray, List.set_cons_zero, List.set_cons_succ]
    refine wpAnyH_take (i := 4) (v := .slice A xs.length C) rfl (by kernel_rfl) (by kernel_rfl) (by kernel_rfl) (fun _ _ _ h => h) (Or.inl ⟨by rfl, ?_⟩) HL_ ?_
    · rintro Wl ⟨s0, s1, s2, s3, s4⟩
      go_simp
    simp only [Act.put, List.setIfInBounds_toArray, List.set_cons_zero, List.set_cons_succ]
    refine wpAnyH_take (i := 5) (v := .int .i64 xs.length) rfl (by kernel_rfl) (by kernel_rfl) (by kernel_rfl) (fun _ _ _ h => h) (Or.inl ⟨by rfl, ?_⟩) HL_ ?_
    · rintro Wl ⟨s0, s1, s2, s3, s4⟩
      go_simp
    simp only [Act.put, List.setIfInBounds_toArray, List.set_cons_zero, List.set_cons_succ]
    refine wpAnyH_take (i := 6) (v := .int .i64 ((xs.length : Int) - 2)) rfl (by kernel_rfl) (by kernel_rfl) (by kernel_rfl) (fun _ _ _ h => h) (Or.inl ⟨by rfl, ?_⟩) HL_ ?_
    · rintro Wl ⟨s0, s1, s2, s3, s4⟩
      go_simp
    simp only [Act.put, List.setIfInBounds_toArray, List.set_cons_zero, List.set_cons_succ]
    refine wpAnyH_ready (rs := [3]) (by kernel_rfl) (by simp) ?_
    refine AllReadyH.cons (o := _) rfl (fun K hK => ?_) AllReadyH.nil
    go_simp
    have HSd := Lib.hid (show SlS Wb.drew A xs from HS.out)
    with_reducible refine (HC.out Wb.drew q HQ.out HSd.out).mono ?_
    rintro e W3 ⟨rfl, hb⟩
    have hb9 : Below Wb.heap.size Wb W3 := undrew_b hb
    refine hK.out _ _ ⟨keepc hb9 d0, keepc hb9 d1, keepc hb9 d2, keepc hb9 d3, keepc hb9 d4⟩ fun HL_ => ?_
    clear hK K
    refine wpAnyH_take (i := 7) (v := .bool ((q : Int) != (xs.length : Int) - 2)) rfl (by kernel_rfl) (by kernel_rfl) (by kernel_rfl) (fun _ _ _ h => h) (Or.inl ⟨by rfl, ?_⟩) HL_ ?_
    · rintro Wl ⟨s0, s1, s2, s3, s4⟩
      go_simp
    simp only [Act.put, List.setIfInBounds_toArray, List.set_cons_zero, List.set_cons_succ]
    refine wpAnyH_done (by kernel_rfl) ?_ _
    have HI3 := Lib.hid (HI2.out.on hb9 HI2.out.hp)
    have HK3 := Lib.hid (Kz.of (b := w.heap.size) (T := 28) hb9 HI2.out.bel.size)
    have HF3 := Lib.hid (keeps_of (B := w2.heap.size) hb9)
    clear hb hb9 d0 d1 d2 d3 d4 HC HL_ w1_ w2_
    by_cases hz : q = xs.length - 2
    · have HP := Lib.hid (HE.out.1 hz)
      have hz2 : ((q : Int) != (xs.length : Int) - 2) = false := by rw [bne_eq_false_iff_eq]; omega
      clear hz HE HQ
      gi_wp2
      exact ⟨HF3.out, HK3.out, HI3.out.b, HI3.out.r, HI3.out.bel, fun i hi => by by_cases e : i = k; (subst e; exact HP.out); exact HI3.out.hp i (by omega)⟩
    · have HN := Lib.hid (show ¬ Cvx xs.length (px xs) (py xs) from fun h => hz (HE.out.2 fun j hj h1 h2 => h k j hk hj h1 h2))
      have d5 := HI3.out.r.cell
      have d6 := HI3.out.r.frozen
      have hz2 : ((q : Int) != (xs.length : Int) - 2) = true := by rw [bne_iff_ne]; omega
      clear hz HE HQ
      gi_wp2
      exact ⟨HF3.out.trans (keeps_set _ _), (Bx.put (s := false) ⟨HI3.out.b, HI3.out.r, HI3.out.bel, HN.out⟩ (Nat.le_refl _))⟩
  case done =>
    rintro D_ W hD hI hK
    have hf := true_of (HR.out.2 fun i j hi hj h1 h2 => hI.hp i hi j hj h1 h2)
    subst hf
    have hx := hI.r
    have HBL := Lib.hid hI.bel
    have c7 := hx.cell
    have c8 := hx.frozen
    have x8 := hx.set (.bool true)
    have k8 : (W.setCell ⟨w.heap.size + 1, 0, none⟩ (.bool true)).heap[D_]? = some (.deferred (some [])) := (KeepsOthers.setCell _ _ _).same _ _ hK rfl
    have d8 := (box_row x8 (grownBy_putObj' _ D_ (.deferred none)) (row_one k8 rfl)).cell
    have HF := Lib.hid (show Below w.heap.size w ((W.setCell ⟨w.heap.size + 1, 0, none⟩ (.bool true)).putObj D_ (.deferred none)) from (hI.bel.setCell (by show w.heap.size ≤ w.heap.size + 1; omega) _).grown (grownBy_putObj' _ D_ _) (by have := hI.bel.size; simpa using this) (fun k e => by cases e; omega))
    clear hI hx x8
    gi_wp2
    refine ⟨by simp, .inl ⟨_, _, rfl, run_takeDeferred k8, ?_⟩⟩
    exact ⟨.bool true, by simp [results, Try.results45, go_sem, d8], rfl, HF.out⟩
  case stop =>
    rintro D_ k W hD hk hI hK
    have hf := false_of (r := r) fun e => hI.hp (HR.out.1 e)
    subst hf
    have d8 := (box_row hI.r (grownBy_putObj' _ D_ (.deferred none)) (row_one hK rfl)).cell
    have HF := Lib.hid (show Below w.heap.size w (W.putObj D_ (.deferred none)) from hI.bel.grown (grownBy_putObj' _ D_ _) hI.bel.size (fun k e => by cases e; omega))
    clear hI
    gi_wp2
    refine ⟨by simp, .inl ⟨_, _, rfl, run_takeDeferred hK, ?_⟩⟩
    exact ⟨.bool false, by simp [results, Try.results45, go_sem, d8], rfl, HF.out⟩
end Go.Proofs.Ytgikpcoaennkgaa
