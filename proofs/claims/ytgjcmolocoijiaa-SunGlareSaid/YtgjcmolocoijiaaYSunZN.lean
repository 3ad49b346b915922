/-
  The laws of layer 10: tables that come in, Few, the head.
-/
import Derived.Test.YtgjcmolocoijiaaYSunZC
import Derived.Test.YtgjcmolocoijiaaYSgtZE
import Derived.Test.YtgjcmolocoijiaaYShpX
import Derived.Test.YtgjcmolocoijiaaYShpY
import Derived.Test.YtgjcmolocoijiaaYShpPG
import Derived.Test.YtgjcmolocoijiaaYShpPK
import Derived.Test.YtgjcmolocoijiaaYShpPS
import Derived.Laws.CopyRow
import Derived.Laws.CopyOwn
import Derived.Laws.MakeOwn
import Derived.StillTailTactics
import Derived.Deep.SlicePairs
namespace Go.Proofs.Ytgjcmolocoijiaa
open Go.RowKit Go.Sort
open Go.ChangeShapes Go.WideShapes Go.ChangeAt Go.Joins Go.Deep
open Go.RowKit (Below)
set_option linter.unusedVariables false
set_option linter.unusedSimpArgs false
attribute [local go_sem] Oper.semAt_some

theorem cellsSun : Try.prog.cellsOf 189 = 4 := by kernel_rfl
section
variable {H : Type} {enc : TypeId × Value → H} {W : World} {sp : Nat → Bool} {m : Nat} {cs : List Value} {x : DataW H × List MemPlace}
set_option maxRecDepth 100000 in
theorem sun_back (h : DataW.trod enc Try.prog W 0 sp true m 189 cs = some x) :
    ∃ q : Q4, cs = vals4 q ∧ ∀ (W' : World) (sp' : Nat → Bool), ∃ n, DataW.trod enc Try.prog W' 0 sp' true n 189 cs = some x := by
  obtain ⟨y0, y1, m, rfl, hl, h0, h1⟩ := trod_struct2 Try.underlying189 h
  rw [cellsSun] at hl
  match cs, hl with
  | [v0, v1, v2, v3], _ =>
    simp only [cellsInt, cellsVec, List.drop_zero, List.drop_succ_cons, List.take_succ_cons, List.take_zero] at h0 h1
    have k0 := fun W' sp' => int_back (W' := W') (sp' := sp') h0
    obtain ⟨b, c, d, e, k1⟩ := vec_back h1
    obtain ⟨a, rfl, _⟩ := k0 W sp
    simp only [List.cons.injEq, and_true] at e
    obtain ⟨rfl, rfl, rfl⟩ := e
    refine ⟨⟨a, b, c, d⟩, rfl, fun W' sp' => ?_⟩
    obtain ⟨_, _, _, _, n0, t0⟩ := k0 W' sp'
    obtain ⟨n1, t1⟩ := k1 W' sp'
    exact ⟨_, trod_struct2_mk (n := n0 + n1) Try.underlying189 (by rw [cellsSun]; rfl)
      (by simpa [cellsInt] using DataW.trod_le (show n0 ≤ n0 + n1 by omega) t0) (by simpa [cellsVec] using DataW.trod_le (show n1 ≤ n0 + n1 by omega) t1)⟩
end
set_option maxRecDepth 100000 in
theorem open_suns {H : Type} {enc : TypeId × Value → H} {W : World} {base : Nat} {v : Value} {d : DataW H} {p : List MemPlace} (hv : Value.okWide Try.prog W .any base 78 v) (h : DataW.Trod enc Try.prog W 0 (fun _ => true) true 78 v d p) :
    ∃ (A : Option Addr) (cap : Nat) (L : List Q4), v = .slice A L.length cap ∧ L4 W A cap L ∧
      ∀ (W' : World) (sp : Nat → Bool), Below W.heap.size W W' → (∀ q ∈ p, sp q.block = true) → DataW.Trod enc Try.prog W' 0 sp true 78 v d p := by
  obtain ⟨a0, len, cap, rfl⟩ := okWide_slice Try.underlying78 hv
  obtain ⟨fuel, hf⟩ := h
  simp only [Value.cells] at hf
  obtain ⟨A, C, L, e, h1, h2, h3, h4, h5⟩ := open_seq Try.underlying78 cellsSun (by omega) vals4 (fun _ => rfl) (fun _ => True) (fun m cs x h => by obtain ⟨q, e, k⟩ := sun_back h; exact ⟨q, e, trivial, fun W' sp _ _ => k W' sp⟩) hf
  refine ⟨A, C, L, e, ⟨fun k hk => ?_, ⟨h1, h2⟩, h3⟩, fun W' sp hb hs => ?_⟩
  · obtain ⟨b, o, e, hc, hg⟩ := h4 k hk
    rw [gd4_at hk]
    exact ⟨b, o, e, hc 0 _ rfl, hc 1 _ rfl, hc 2 _ rfl, hc 3 _ rfl⟩
  · obtain ⟨n, t⟩ := h5 W' sp hb hs
    exact ⟨n, by simpa [Value.cells] using t⟩
/-- At most 102 directions and 62 bodies, with at most 10 corners each. -/
def FewS (n : Nat) (L : List Bv) : Prop := n ≤ 102 ∧ L.length ≤ 62 ∧ ∀ k, k < L.length → (gdB L k).xs.length ≤ 10
theorem fews_bsm {n : Nat} {L : List Bv} (h : FewS n L) : Bsm L := fun k hk => by have := h.2.2 k hk; omega
set_option maxRecDepth 100000 in
set_option maxHeartbeats 4000000 in
theorem few10_is (A : Option Addr) (C : Nat) (T : List Q4) (B : Option Addr) (D : Nat) (L : List Bv) (h4 : T.length ≤ 9223372036854775807) (h5 : L.length ≤ 9223372036854775807) (h6 : ∀ k, k < L.length → (gdB L k).xs.length ≤ 9223372036854775807) (r : Bool) (hr : r = true ↔ FewS T.length L) (w : World) (hm : BdS w B L) :
    Calls Try.prog 40 #[.slice A T.length C, .slice B L.length D] w fun e_ w' => e_ = .returned (.bool r) ∧ Below w.heap.size w w' := by
  have HR := Lib.hid hr
  clear hr
  have HM := Lib.hid hm
  clear hm
  have H6 := Lib.hid h6
  clear h6
  by_cases c1 : T.length ≤ 102
  rotate_left
  · have hf := false_of (r := r) (fun e_ => c1 (HR.out.1 e_).1)
    subst hf
    go_enter Try.func40, Try.ntmps40
    go_wp2_with fail
    go_ret
    exact ⟨rfl, Below.refl _ _⟩
  by_cases c2 : L.length ≤ 62
  rotate_left
  · have hf := false_of (r := r) (fun e_ => c2 (HR.out.1 e_).2.1)
    subst hf
    go_enter Try.func40, Try.ntmps40
    go_wp2_with fail
    go_ret
    exact ⟨rfl, Below.refl _ _⟩
  go_enter Try.func40, Try.ntmps40
  go_wp2_with fail
  go_loopw [5] (fun i wr => ∃ k : Nat, k ≤ L.length ∧ i = .int .i64 k ∧ Hid (∀ j, j < k → (gdB L j).xs.length ≤ 10) ∧ Below w.heap.size w wr) (fun i _ => L.length - (intOf i).toNat)
  case atStart => exact ⟨0, Nat.zero_le _, rfl, (fun j hj => absurd hj (Nat.not_lt_zero j)), Below.refl _ _⟩
  case round =>
    obtain ⟨k, hk, rfl, HK, hW⟩ := hrel
    by_cases hlt : k < L.length
    · obtain ⟨b0, o0, rfl, e0, e1, e2, _⟩ := HM.out.below hW k hlt
      have HW := Lib.hid hW
      clear hW
      have hux := H6.out k hlt
      obtain ⟨n, hn⟩ : ∃ n, (gdB L k).xs.length = n := ⟨_, rfl⟩
      rw [hn] at e0 hux
      have HN := Lib.hid hn
      clear hn
      generalize (gdB L k).A = uA at *
      generalize (gdB L k).C = uC at *
      generalize (gdB L k).lo = ul at *
      generalize (gdB L k).hi = uh at *
      by_cases hq : n ≤ 10
      · go_wp2_with fail
        go_roundw
        case rel => exact ⟨k + 1, hlt, int_of (by omega), (fun j hj => by by_cases e : j = k; (subst e; rw [HN.out]; exact hq); exact HK.out j (by omega)), HW.out⟩
        case measure => simp [intOf]; omega
      · have hf := false_of (r := r) (fun e => hq (by rw [← HN.out]; exact (HR.out.1 e).2.2 k hlt))
        subst hf
        go_wp2_with fail
        go_ret
        exact ⟨rfl, HW.out⟩
    · have hf := true_of (HR.out.2 ⟨c1, c2, fun j hj => HK.out j (by omega)⟩)
      subst hf
      go_wp2_with fail
      go_ret
      exact ⟨rfl, hW⟩
/-- The table and the body of the examples. -/
def tb : List Q4 := [⟨300, 0, -100, 50⟩, ⟨1200, 0, 100, -20⟩]
def xsw : List (Int × Int) := [(-5, -25), (5, -25), (5, -15), (-5, -15)]
def bw (g : Nat) : Bv := ⟨some ⟨g, 0, none⟩, 4, xsw, 0, 100⟩
theorem bok_w : Bok xsw 0 100 := by
  constructor
  · decide
  · decide
  · exact four (by unfold co; decide) (by unfold co; decide) (by unfold co; decide) (by unfold co; decide)
  · exact four (by unfold co; decide) (by unfold co; decide) (by unfold co; decide) (by unfold co; decide)
  · unfold co; decide
  · unfold co; decide
  · decide
  · exact fun i h0 h => four (P := fun i => 0 < i → px xsw 0 < px xsw i ∨ (px xsw 0 = px xsw i ∧ py xsw 0 < py xsw i)) (by decide) (by decide) (by decide) (by decide) i h h0
  · exact cvx4 (four (four (by decide) (by decide) (by decide) (by decide)) (four (by decide) (by decide) (by decide) (by decide)) (four (by decide) (by decide) (by decide) (by decide)) (four (by decide) (by decide) (by decide) (by decide)))
theorem sok_tb : Sok tb := ⟨by decide, by decide, two_of (by decide) (by decide), two_of (by decide) (by decide), two_of (by decide) (by decide), fun k hk => by
  obtain rfl : k = 0 := by simp [tb] at hk; omega
  decide⟩
theorem mok_tb : Mok tb 720 := ⟨sok_tb, by decide, by decide⟩
theorem hdr_1 : Dir tb 720 0 (-100) 50 := ⟨0, ⟨by decide, Or.inl ⟨by decide, fun j h1 h2 => by
  obtain rfl : j = 1 := by simp [tb] at h2; omega
  decide⟩⟩, rfl, rfl, rfl⟩
theorem hdr_2 : Dir tb 1500 0 100 (-20) := ⟨1, ⟨by decide, Or.inr ⟨by decide, two_of (by decide) (by decide)⟩⟩, rfl, rfl, rfl⟩
theorem atr_1 : AtR tb 720 0 (-100) 50 true 0 := Or.inl ⟨mok_tb, rfl, hdr_1, rfl⟩
theorem atr_2 : AtR tb 1500 0 100 (-20) false 0 := Or.inl ⟨⟨sok_tb, by decide, by decide⟩, rfl, hdr_2, rfl⟩
theorem atr_3 : AtR tb (-1) 0 0 0 false 1 := Or.inr ⟨fun h => absurd h.2.1 (by decide), rfl, rfl, rfl, rfl, rfl⟩
theorem bds_nil : Bds [] := fun k hk => absurd hk (Nat.not_lt_zero k)
theorem bds_w (g : Nat) : Bds [bw g] := one_of bok_w
theorem ok1_0 {ex ey ez : Int} (h : vv ex ey ez = true) : Ok1 tb 720 ex ey ez [] := ⟨mok_tb, vv_iff.1 h, bds_nil⟩
theorem shr_1 : ShdR tb 720 0 0 0 [] false 0 := Or.inr (Or.inr ⟨by decide, ok1_0 (by decide), _, _, _, hdr_1, Or.inr (Or.inr ⟨by decide, by decide, iff_of_false (by decide) (by rintro ⟨k, hk, _⟩; exact absurd hk (Nat.not_lt_zero k)), rfl⟩)⟩)
theorem hit_w (g : Nat) : hit 0 0 0 (0 + 0) (0 + -100) (0 + 50) (bw g) = true := by kernel_rfl
theorem shr_2 (g : Nat) : ShdR tb 720 0 0 0 [bw g] true 0 := Or.inr (Or.inr ⟨by simp, ⟨mok_tb, vv_iff.1 (by decide), bds_w g⟩, _, _, _, hdr_1, Or.inr (Or.inr ⟨by decide, by decide, iff_of_true rfl ⟨0, by simp, hit_w g⟩, rfl⟩)⟩)
theorem shr_3 : ShdR tb 720 0 0 1999 [] false 3 := Or.inr (Or.inr ⟨by decide, ok1_0 (by decide), _, _, _, hdr_1, Or.inr (Or.inl ⟨by decide, by decide, rfl, rfl⟩)⟩)
theorem glr_h {tx ty tz N D : Int} {r : Bool} (h0 : vv tx ty tz = true) (h1 : shr N D = true) (h2 : ¬ (tx = 0 ∧ ty = 0 ∧ tz = 0)) (h3 : vv (tx - 0) (ty - 0) (tz - 0) = true) (h4 : nr (dt 0 (-100) 50 (tx - 0) (ty - 0) (tz - 0)) (dt 0 (-100) 50 0 (-100) 50) (dt (tx - 0) (ty - 0) (tz - 0) (tx - 0) (ty - 0) (tz - 0)) N D = r) : GlrR tb 720 0 0 0 tx ty tz N D [] r 0 :=
  Or.inr (Or.inr ⟨by decide, ⟨mok_tb, vv_iff.1 (by decide), vv_iff.1 h0, h1, bds_nil⟩, _, _, _, hdr_1, Or.inr (Or.inr ⟨⟨by decide, h2⟩, ⟨by decide, h3⟩, by
    rw [h4]
    exact ⟨fun e => ⟨e, by rintro ⟨k, hk, _⟩; exact absurd hk (Nat.not_lt_zero k)⟩, fun e => e.1⟩, rfl⟩)⟩)
theorem glr_1h : GlrR tb 720 0 0 0 0 (-10) 5 1 1 [] true 0 := glr_h (by decide) (by decide) (by decide) (by decide) (by decide)
theorem glr_2h : GlrR tb 720 0 0 0 0 (-10) 0 4 5 [] true 0 := glr_h (by decide) (by decide) (by decide) (by decide) (by decide)
theorem glr_3h : GlrR tb 720 0 0 0 0 (-10) 0 9 10 [] false 0 := glr_h (by decide) (by decide) (by decide) (by decide) (by decide)
theorem nosok : ¬ Sok [] := fun h => absurd h.n1 (by decide)
set_option maxRecDepth 100000 in
set_option maxHeartbeats 2000000 in
theorem table_is (w : World) : Calls Try.prog 85 #[] w fun e_ w' => ∃ g, e_ = .returned (.slice (some ⟨g, 0, none⟩) 2 2) ∧ S4 w' (some ⟨g, 0, none⟩) tb ∧ Below w.heap.size w w' := by
  go_enter Try.func85, Try.ntmps85
  go_wp2_with fail
  go_ret
  exact ⟨w.heap.size, rfl, s4_two (World.alloc_heap_new _ _), below_new _ _⟩
set_option maxRecDepth 100000 in
set_option maxHeartbeats 2000000 in
theorem wall_is (w : World) : Calls Try.prog 86 #[] w fun e_ w' => ∃ g, e_ = .returned (.agg #[.slice (some ⟨g, 0, none⟩) 4 4, .int .i64 0, .int .i64 100]) ∧ SlS w' (some ⟨g, 0, none⟩) xsw ∧ Below w.heap.size w w' := by
  go_enter Try.func86, Try.ntmps86
  go_wp2_with fail
  refine bodyPost_ret (v := .agg #[.slice (some ⟨w.heap.size + 1, 0, none⟩) 4 4, .int .i64 0, .int .i64 100]) (by simp [results, Try.results86, go_sem]) rfl ⟨w.heap.size + 1, rfl, ?_, ?_⟩
  · intro k hk
    have h4 : k = 0 ∨ k = 1 ∨ k = 2 ∨ k = 3 := by simp [xsw] at hk; omega
    rcases h4 with rfl | rfl | rfl | rfl
    all_goals exact ⟨_, _, rfl, by simp [go_sem, gdS, xsw], by simp [go_sem, gdS, xsw]⟩
  · repeat (first | (refine Below.setCell ?_ (by first | exact Nat.le_refl _ | (simp; done) | (simp; omega) | omega) _) | (with_reducible refine on_below ?_ (below_new _ _)))
    exact Below.refl _ _
section
variable (g : Nat) (w : World) (h : S4 w (some ⟨g, 0, none⟩) tb)
include h
theorem k_1 : Calls Try.prog 42 #[.slice (some ⟨g, 0, none⟩) 2 2, .int .i64 720] w fun e_ w' => e_ = .returned (.tuple #[.agg #[.int .i64 0, .int .i64 ((-100)), .int .i64 50], .bool true, .int .i64 0]) ∧ Below w.heap.size w w' := at_is (some ⟨g, 0, none⟩) 2 tb 720 (by decide) 0 (-100) 50 true 0 atr_1 w h
theorem k_2 : Calls Try.prog 42 #[.slice (some ⟨g, 0, none⟩) 2 2, .int .i64 1500] w fun e_ w' => e_ = .returned (.tuple #[.agg #[.int .i64 0, .int .i64 100, .int .i64 ((-20))], .bool false, .int .i64 0]) ∧ Below w.heap.size w w' := at_is (some ⟨g, 0, none⟩) 2 tb 1500 (by decide) 0 100 (-20) false 0 atr_2 w h
theorem k_3 : Calls Try.prog 42 #[.slice (some ⟨g, 0, none⟩) 2 2, .int .i64 (-1)] w fun e_ w' => e_ = .returned (.tuple #[.agg #[.int .i64 0, .int .i64 0, .int .i64 0], .bool false, .int .i64 1]) ∧ Below w.heap.size w w' := at_is (some ⟨g, 0, none⟩) 2 tb (-1) (by decide) 0 0 0 false 1 atr_3 w h
theorem k_4 : Calls Try.prog 43 #[.slice (some ⟨g, 0, none⟩) 2 2, .int .i64 720, .agg #[.int .i64 0, .int .i64 0, .int .i64 0], .slice none 0 0] w fun e_ w' => e_ = .returned (.tuple #[.bool false, .int .i64 0]) ∧ Below w.heap.size w w' := shd_is (some ⟨g, 0, none⟩) 2 tb 720 0 0 0 none 0 [] (by decide) (by decide) (fun _ k hk => absurd hk (Nat.not_lt_zero k)) false 0 shr_1 w h (BdS.nil _ _)
theorem k_6 : Calls Try.prog 43 #[.slice (some ⟨g, 0, none⟩) 2 2, .int .i64 720, .agg #[.int .i64 0, .int .i64 0, .int .i64 1999], .slice none 0 0] w fun e_ w' => e_ = .returned (.tuple #[.bool false, .int .i64 3]) ∧ Below w.heap.size w w' := shd_is (some ⟨g, 0, none⟩) 2 tb 720 0 0 1999 none 0 [] (by decide) (by decide) (fun _ k hk => absurd hk (Nat.not_lt_zero k)) false 3 shr_3 w h (BdS.nil _ _)
theorem k_5 (gb gp : Nat) (hb : BdS w (some ⟨gb, 0, none⟩) [bw gp]) : Calls Try.prog 43 #[.slice (some ⟨g, 0, none⟩) 2 2, .int .i64 720, .agg #[.int .i64 0, .int .i64 0, .int .i64 0], .slice (some ⟨gb, 0, none⟩) 1 1] w fun e_ w' => e_ = .returned (.tuple #[.bool true, .int .i64 0]) ∧ Below w.heap.size w w' := shd_is (some ⟨g, 0, none⟩) 2 tb 720 0 0 0 (some ⟨gb, 0, none⟩) 1 [bw gp] (by decide) (by simp) (fun _ => one_of (by show xsw.length ≤ 9223372036854775806; decide)) true 0 (shr_2 gp) w h hb
theorem k_7 : Calls Try.prog 41 #[.slice (some ⟨g, 0, none⟩) 2 2, .int .i64 720, .agg #[.int .i64 0, .int .i64 0, .int .i64 0], .agg #[.int .i64 0, .int .i64 ((-10)), .int .i64 5], .agg #[.int .i64 1, .int .i64 1], .slice none 0 0] w fun e_ w' => e_ = .returned (.tuple #[.bool true, .int .i64 0]) ∧ Below w.heap.size w w' := glr_is (some ⟨g, 0, none⟩) 2 tb 720 0 0 0 0 (-10) 5 1 1 none 0 [] (by decide) (by decide) (fun _ k hk => absurd hk (Nat.not_lt_zero k)) ⟨by decide, by decide⟩ ⟨by decide, by decide⟩ true 0 glr_1h w h (BdS.nil _ _)
theorem k_8 : Calls Try.prog 41 #[.slice (some ⟨g, 0, none⟩) 2 2, .int .i64 720, .agg #[.int .i64 0, .int .i64 0, .int .i64 0], .agg #[.int .i64 0, .int .i64 ((-10)), .int .i64 0], .agg #[.int .i64 4, .int .i64 5], .slice none 0 0] w fun e_ w' => e_ = .returned (.tuple #[.bool true, .int .i64 0]) ∧ Below w.heap.size w w' := glr_is (some ⟨g, 0, none⟩) 2 tb 720 0 0 0 0 (-10) 0 4 5 none 0 [] (by decide) (by decide) (fun _ k hk => absurd hk (Nat.not_lt_zero k)) ⟨by decide, by decide⟩ ⟨by decide, by decide⟩ true 0 glr_2h w h (BdS.nil _ _)
theorem k_9 : Calls Try.prog 41 #[.slice (some ⟨g, 0, none⟩) 2 2, .int .i64 720, .agg #[.int .i64 0, .int .i64 0, .int .i64 0], .agg #[.int .i64 0, .int .i64 ((-10)), .int .i64 0], .agg #[.int .i64 9, .int .i64 10], .slice none 0 0] w fun e_ w' => e_ = .returned (.tuple #[.bool false, .int .i64 0]) ∧ Below w.heap.size w w' := glr_is (some ⟨g, 0, none⟩) 2 tb 720 0 0 0 0 (-10) 0 9 10 none 0 [] (by decide) (by decide) (fun _ k hk => absurd hk (Nat.not_lt_zero k)) ⟨by decide, by decide⟩ ⟨by decide, by decide⟩ false 0 glr_3h w h (BdS.nil _ _)
theorem k_v : Calls Try.prog 87 #[.slice (some ⟨g, 0, none⟩) 2 2] w fun e_ w' => e_ = .returned (.bool true) ∧ Below w.heap.size w w' := svalid_is (some ⟨g, 0, none⟩) 2 tb (by decide) true (iff_of_true rfl sok_tb) w h
end
theorem k_n (w : World) : Calls Try.prog 87 #[.slice none 0 0] w fun e_ w' => e_ = .returned (.bool false) ∧ Below w.heap.size w w' := svalid_is none 0 [] (by decide) false (iff_of_false (by decide) nosok) w (S4.nil _ _)
theorem bds_wall {W : World} {gb gp : Nat} (h0 : W.cell? ⟨gb, 0, none⟩ = some (.slice (some ⟨gp, 0, none⟩) 4 4)) (h1 : W.cell? ⟨gb, 1, none⟩ = some (.int .i64 0)) (h2 : W.cell? ⟨gb, 2, none⟩ = some (.int .i64 100)) (hs : SlS W (some ⟨gp, 0, none⟩) xsw) : BdS W (some ⟨gb, 0, none⟩) [bw gp] := bds_one h0 h1 h2 hs
set_option maxRecDepth 100000 in
set_option maxHeartbeats 4000000 in
theorem head10_any (w : World) :
    Calls Try.prog 39 #[] w fun e_ w' => e_ = .returned (.bool true) ∧ Below w.heap.size w w' := by
  have ea : ∀ W, (binOp .eql 27 (.agg #[.int .i64 0, .int .i64 ((-100)), .int .i64 50]) (.agg #[.int .i64 0, .int .i64 ((-100)), .int .i64 50])).run Try.prog W = .ok (.bool true) W := fun W => vec_eq (r := true) (by decide) W
  have eb : ∀ W, (binOp .eql 27 (.agg #[.int .i64 0, .int .i64 100, .int .i64 ((-20))]) (.agg #[.int .i64 0, .int .i64 100, .int .i64 ((-20))])).run Try.prog W = .ok (.bool true) W := fun W => vec_eq (r := true) (by decide) W
  go_enter Try.func39, Try.ntmps39
  go_wp2_with fail
  with_reducible refine (table_is _).mono ?_
  rintro e_ w1 ⟨gt, rfl, hs4, hb⟩
  have HB := Lib.hid hb
  have HT := Lib.hid hs4
  clear hb hs4
  go_wp2_with fail
  with_reducible refine (k_1 _ _ HT.out).mono ?_
  rintro e_ w2 ⟨rfl, hb⟩
  replace HB := Lib.hid (on_below HB.out hb)
  replace HT := Lib.hid (HT.out.below hb)
  clear hb
  go_wp2_with fail
  have a0 : World.cell? (w2.alloc (.cells #[.int .i64 0, .int .i64 ((-100)), .int .i64 50] 27)) ⟨w2.heap.size, 0, none⟩ = some (.int .i64 0) := by simp [go_sem]
  have a1 : World.cell? (w2.alloc (.cells #[.int .i64 0, .int .i64 ((-100)), .int .i64 50] 27)) ⟨w2.heap.size, 1, none⟩ = some (.int .i64 ((-100))) := by simp [go_sem]
  have a2 : World.cell? (w2.alloc (.cells #[.int .i64 0, .int .i64 ((-100)), .int .i64 50] 27)) ⟨w2.heap.size, 2, none⟩ = some (.int .i64 50) := by simp [go_sem]
  have la : w2.heap.size < (w2.alloc (.cells #[.int .i64 0, .int .i64 ((-100)), .int .i64 50] 27)).heap.size := by simp
  have hb : Below w2.heap.size w2 (w2.alloc (.cells #[.int .i64 0, .int .i64 ((-100)), .int .i64 50] 27)) := below_new _ _
  generalize w2.alloc (.cells #[.int .i64 0, .int .i64 ((-100)), .int .i64 50] 27) = w3 at *
  replace HB := Lib.hid (on_below HB.out hb)
  replace HT := Lib.hid (HT.out.below hb)
  clear hb
  generalize w2.heap.size = ga at *
  with_reducible refine (k_2 _ _ HT.out).mono ?_
  rintro e_ w4 ⟨rfl, hb⟩
  replace HB := Lib.hid (on_below HB.out hb)
  replace HT := Lib.hid (HT.out.below hb)
  replace a0 := keepc hb a0
  replace a1 := keepc hb a1
  replace a2 := keepc hb a2
  replace la := Nat.lt_of_lt_of_le la hb.size
  clear hb
  go_wp2_with fail
  have c0 : World.cell? (w4.alloc (.cells #[.int .i64 0, .int .i64 100, .int .i64 ((-20))] 27)) ⟨w4.heap.size, 0, none⟩ = some (.int .i64 0) := by simp [go_sem]
  have c1 : World.cell? (w4.alloc (.cells #[.int .i64 0, .int .i64 100, .int .i64 ((-20))] 27)) ⟨w4.heap.size, 1, none⟩ = some (.int .i64 100) := by simp [go_sem]
  have c2 : World.cell? (w4.alloc (.cells #[.int .i64 0, .int .i64 100, .int .i64 ((-20))] 27)) ⟨w4.heap.size, 2, none⟩ = some (.int .i64 ((-20))) := by simp [go_sem]
  have lc : w4.heap.size < (w4.alloc (.cells #[.int .i64 0, .int .i64 100, .int .i64 ((-20))] 27)).heap.size := by simp
  have hb : Below w4.heap.size w4 (w4.alloc (.cells #[.int .i64 0, .int .i64 100, .int .i64 ((-20))] 27)) := below_new _ _
  generalize w4.alloc (.cells #[.int .i64 0, .int .i64 100, .int .i64 ((-20))] 27) = w5 at *
  replace HB := Lib.hid (on_below HB.out hb)
  replace HT := Lib.hid (HT.out.below hb)
  replace a0 := keepc hb a0
  replace a1 := keepc hb a1
  replace a2 := keepc hb a2
  replace la := Nat.lt_of_lt_of_le la hb.size
  clear hb
  generalize w4.heap.size = gc at *
  with_reducible refine (k_4 _ _ HT.out).mono ?_
  rintro e_ w6 ⟨rfl, hb⟩
  replace HB := Lib.hid (on_below HB.out hb)
  replace HT := Lib.hid (HT.out.below hb)
  replace a0 := keepc hb a0
  replace a1 := keepc hb a1
  replace a2 := keepc hb a2
  replace c0 := keepc hb c0
  replace c1 := keepc hb c1
  replace c2 := keepc hb c2
  replace la := Nat.lt_of_lt_of_le la hb.size
  replace lc := Nat.lt_of_lt_of_le lc hb.size
  clear hb
  go_wp2_with fail
  with_reducible refine (wall_is _).mono ?_
  rintro e_ w7 ⟨gp, rfl, hsl, hb⟩
  replace HB := Lib.hid (on_below HB.out hb)
  replace HT := Lib.hid (HT.out.below hb)
  replace a0 := keepc hb a0
  replace a1 := keepc hb a1
  replace a2 := keepc hb a2
  replace c0 := keepc hb c0
  replace c1 := keepc hb c1
  replace c2 := keepc hb c2
  replace la := Nat.lt_of_lt_of_le la hb.size
  replace lc := Nat.lt_of_lt_of_le lc hb.size
  clear hb
  have HS := Lib.hid hsl
  clear hsl
  go_wp2_with fail
  have u0 : World.cell? (w7.alloc (.cells #[.slice (some ⟨gp, 0, none⟩) 4 4, .int .i64 0, .int .i64 100] 59)) ⟨w7.heap.size, 0, none⟩ = some (.slice (some ⟨gp, 0, none⟩) 4 4) := by simp [go_sem]
  have u1 : World.cell? (w7.alloc (.cells #[.slice (some ⟨gp, 0, none⟩) 4 4, .int .i64 0, .int .i64 100] 59)) ⟨w7.heap.size, 1, none⟩ = some (.int .i64 0) := by simp [go_sem]
  have u2 : World.cell? (w7.alloc (.cells #[.slice (some ⟨gp, 0, none⟩) 4 4, .int .i64 0, .int .i64 100] 59)) ⟨w7.heap.size, 2, none⟩ = some (.int .i64 100) := by simp [go_sem]
  have lu : w7.heap.size < (w7.alloc (.cells #[.slice (some ⟨gp, 0, none⟩) 4 4, .int .i64 0, .int .i64 100] 59)).heap.size := by simp
  have hb : Below w7.heap.size w7 (w7.alloc (.cells #[.slice (some ⟨gp, 0, none⟩) 4 4, .int .i64 0, .int .i64 100] 59)) := below_new _ _
  generalize w7.alloc (.cells #[.slice (some ⟨gp, 0, none⟩) 4 4, .int .i64 0, .int .i64 100] 59) = w8 at *
  replace HB := Lib.hid (on_below HB.out hb)
  replace HT := Lib.hid (HT.out.below hb)
  replace HS := Lib.hid (HS.out.below hb)
  replace a0 := keepc hb a0
  replace a1 := keepc hb a1
  replace a2 := keepc hb a2
  replace c0 := keepc hb c0
  replace c1 := keepc hb c1
  replace c2 := keepc hb c2
  replace la := Nat.lt_of_lt_of_le la hb.size
  replace lc := Nat.lt_of_lt_of_le lc hb.size
  clear hb
  generalize w7.heap.size = gu at *
  with_reducible refine (k_5 _ _ HT.out _ gp (bds_wall u0 u1 u2 HS.out)).mono ?_
  rintro e_ w9 ⟨rfl, hb⟩
  replace HB := Lib.hid (on_below HB.out hb)
  replace HT := Lib.hid (HT.out.below hb)
  replace HS := Lib.hid (HS.out.below hb)
  replace a0 := keepc hb a0
  replace a1 := keepc hb a1
  replace a2 := keepc hb a2
  replace c0 := keepc hb c0
  replace c1 := keepc hb c1
  replace c2 := keepc hb c2
  replace u0 := keepc hb u0
  replace u1 := keepc hb u1
  replace u2 := keepc hb u2
  replace la := Nat.lt_of_lt_of_le la hb.size
  replace lc := Nat.lt_of_lt_of_le lc hb.size
  replace lu := Nat.lt_of_lt_of_le lu hb.size
  clear hb
  go_wp2_with fail
  clear u0 u1 u2 lu
  with_reducible refine (k_7 _ _ HT.out).mono ?_
  rintro e_ w10 ⟨rfl, hb⟩
  replace HB := Lib.hid (on_below HB.out hb)
  replace HT := Lib.hid (HT.out.below hb)
  replace HS := Lib.hid (HS.out.below hb)
  replace a0 := keepc hb a0
  replace a1 := keepc hb a1
  replace a2 := keepc hb a2
  replace c0 := keepc hb c0
  replace c1 := keepc hb c1
  replace c2 := keepc hb c2
  replace la := Nat.lt_of_lt_of_le la hb.size
  replace lc := Nat.lt_of_lt_of_le lc hb.size
  clear hb
  go_wp2_with fail
  with_reducible refine (k_8 _ _ HT.out).mono ?_
  rintro e_ w11 ⟨rfl, hb⟩
  replace HB := Lib.hid (on_below HB.out hb)
  replace HT := Lib.hid (HT.out.below hb)
  replace HS := Lib.hid (HS.out.below hb)
  replace a0 := keepc hb a0
  replace a1 := keepc hb a1
  replace a2 := keepc hb a2
  replace c0 := keepc hb c0
  replace c1 := keepc hb c1
  replace c2 := keepc hb c2
  replace la := Nat.lt_of_lt_of_le la hb.size
  replace lc := Nat.lt_of_lt_of_le lc hb.size
  clear hb
  go_wp2_with fail
  with_reducible refine (k_9 _ _ HT.out).mono ?_
  rintro e_ w12 ⟨rfl, hb⟩
  replace HB := Lib.hid (on_below HB.out hb)
  replace HT := Lib.hid (HT.out.below hb)
  replace HS := Lib.hid (HS.out.below hb)
  replace a0 := keepc hb a0
  replace a1 := keepc hb a1
  replace a2 := keepc hb a2
  replace c0 := keepc hb c0
  replace c1 := keepc hb c1
  replace c2 := keepc hb c2
  replace la := Nat.lt_of_lt_of_le la hb.size
  replace lc := Nat.lt_of_lt_of_le lc hb.size
  clear hb
  go_wp2_with fail
  with_reducible refine (k_6 _ _ HT.out).mono ?_
  rintro e_ w13 ⟨rfl, hb⟩
  replace HB := Lib.hid (on_below HB.out hb)
  replace HT := Lib.hid (HT.out.below hb)
  replace HS := Lib.hid (HS.out.below hb)
  replace a0 := keepc hb a0
  replace a1 := keepc hb a1
  replace a2 := keepc hb a2
  replace c0 := keepc hb c0
  replace c1 := keepc hb c1
  replace c2 := keepc hb c2
  replace la := Nat.lt_of_lt_of_le la hb.size
  replace lc := Nat.lt_of_lt_of_le lc hb.size
  clear hb
  go_wp2_with fail
  with_reducible refine (k_3 _ _ HT.out).mono ?_
  rintro e_ w14 ⟨rfl, hb⟩
  replace HB := Lib.hid (on_below HB.out hb)
  replace HT := Lib.hid (HT.out.below hb)
  replace HS := Lib.hid (HS.out.below hb)
  replace a0 := keepc hb a0
  replace a1 := keepc hb a1
  replace a2 := keepc hb a2
  replace c0 := keepc hb c0
  replace c1 := keepc hb c1
  replace c2 := keepc hb c2
  replace la := Nat.lt_of_lt_of_le la hb.size
  replace lc := Nat.lt_of_lt_of_le lc hb.size
  clear hb
  go_wp2_with fail
  have z0 : World.cell? (w14.alloc (.cells #[.int .i64 0, .int .i64 0, .int .i64 0] 27)) ⟨w14.heap.size, 0, none⟩ = some (.int .i64 0) := by simp [go_sem]
  have z1 : World.cell? (w14.alloc (.cells #[.int .i64 0, .int .i64 0, .int .i64 0] 27)) ⟨w14.heap.size, 1, none⟩ = some (.int .i64 0) := by simp [go_sem]
  have z2 : World.cell? (w14.alloc (.cells #[.int .i64 0, .int .i64 0, .int .i64 0] 27)) ⟨w14.heap.size, 2, none⟩ = some (.int .i64 0) := by simp [go_sem]
  have lz : w14.heap.size < (w14.alloc (.cells #[.int .i64 0, .int .i64 0, .int .i64 0] 27)).heap.size := by simp
  have hb : Below w14.heap.size w14 (w14.alloc (.cells #[.int .i64 0, .int .i64 0, .int .i64 0] 27)) := below_new _ _
  generalize w14.alloc (.cells #[.int .i64 0, .int .i64 0, .int .i64 0] 27) = w15 at *
  replace HB := Lib.hid (on_below HB.out hb)
  replace HT := Lib.hid (HT.out.below hb)
  replace HS := Lib.hid (HS.out.below hb)
  replace a0 := keepc hb a0
  replace a1 := keepc hb a1
  replace a2 := keepc hb a2
  replace c0 := keepc hb c0
  replace c1 := keepc hb c1
  replace c2 := keepc hb c2
  replace la := Nat.lt_of_lt_of_le la hb.size
  replace lc := Nat.lt_of_lt_of_le lc hb.size
  clear hb
  generalize w14.heap.size = gz at *
  clear z0 z1 z2 lz
  with_reducible refine (k_v _ _ HT.out).mono ?_
  rintro e_ w16 ⟨rfl, hb⟩
  replace HB := Lib.hid (on_below HB.out hb)
  replace HT := Lib.hid (HT.out.below hb)
  replace HS := Lib.hid (HS.out.below hb)
  replace a0 := keepc hb a0
  replace a1 := keepc hb a1
  replace a2 := keepc hb a2
  replace c0 := keepc hb c0
  replace c1 := keepc hb c1
  replace c2 := keepc hb c2
  replace la := Nat.lt_of_lt_of_le la hb.size
  replace lc := Nat.lt_of_lt_of_le lc hb.size
  clear hb
  go_wp2_with fail
  with_reducible refine (k_n _).mono ?_
  rintro e_ w17 ⟨rfl, hb⟩
  replace HB := Lib.hid (on_below HB.out hb)
  replace HT := Lib.hid (HT.out.below hb)
  replace HS := Lib.hid (HS.out.below hb)
  replace a0 := keepc hb a0
  replace a1 := keepc hb a1
  replace a2 := keepc hb a2
  replace c0 := keepc hb c0
  replace c1 := keepc hb c1
  replace c2 := keepc hb c2
  replace la := Nat.lt_of_lt_of_le la hb.size
  replace lc := Nat.lt_of_lt_of_le lc hb.size
  clear hb
  go_wp2_with fail
  go_ret
  exact ⟨rfl, HB.out⟩
end Go.Proofs.Ytgjcmolocoijiaa
