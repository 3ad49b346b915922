/-
  The reference of package span: Shift.
-/
import Derived.Test.YtgdgpfpihpofdaaSpnGB
import Derived.Deep.AppendLies
namespace Go.Proofs.Ytgdgpfpihpofdaa
open Go.RowKit Go.Sort
open Go.RowKit (Below)
set_option linter.unusedVariables false

set_option maxRecDepth 100000 in
set_option maxHeartbeats 1000000 in
theorem rshift_bad (A : Option Addr) (C : Nat) (xs : List Spn) (d : Int) (w : World) (hl : xs.length ≤ 9223372036854775807) (h : SlS w A xs) (hb : shB xs d = false) :
    Calls Try.prog 22 #[.slice A xs.length C, .int .i64 d] w fun e w' => e = .returned (.tuple #[.slice none 0 0, .int .i64 1]) ∧ Below w.heap.size w w' := by
  have HX := Lib.hid h
  clear h
  cases hv : vldS xs with
  | false =>
    have VX := Lib.hid hv
    clear hv hb
    go_enter Try.func22, Try.ntmps22
    go_wp2_with fail
    refine (rvalid_b A C xs _ VX.out _ hl HX.out).mono ?_
    rintro e w' ⟨rfl, hb⟩
    have HB := Lib.hid hb
    clear hb
    go_wp2_with fail
    go_ret2
    exact ⟨rfl, HB.out⟩
  | true =>
    have VX := Lib.hid hv
    by_cases h1 : d < -600000
    · clear hv hb
      go_enter Try.func22, Try.ntmps22
      go_wp2_with fail
      refine (rvalid_b A C xs _ VX.out _ hl HX.out).mono ?_
      rintro e w' ⟨rfl, hb⟩
      have HB := Lib.hid hb
      clear hb
      go_wp2_with fail
      go_ret2
      exact ⟨rfl, HB.out⟩
    · have h1' : decide (d < -600000) = false := by simpa using h1
      have h2 : 600000 < d := by
        apply Classical.byContradiction
        intro hn
        have := (shB_iff (d := d)).2 ⟨hv, by omega, by omega⟩
        rw [hb] at this
        cases this
      clear hv hb
      go_enter Try.func22, Try.ntmps22
      go_wp2_with fail
      refine (rvalid_b A C xs _ VX.out _ hl HX.out).mono ?_
      rintro e w' ⟨rfl, hb⟩
      have HB := Lib.hid hb
      clear hb
      go_wp2_with fail
      go_ret2
      exact ⟨rfl, HB.out⟩

set_option maxRecDepth 100000 in
set_option maxHeartbeats 1000000 in
theorem rshift_out (A : Option Addr) (C : Nat) (xs : List Spn) (d : Int) (w : World) (h : SlS w A xs) (hs : shB xs d = true) (hlv : lv xs d = true) :
    Calls Try.prog 22 #[.slice A xs.length C, .int .i64 d] w fun e w' => e = .returned (.tuple #[.slice none 0 0, .int .i64 3]) ∧ Below w.heap.size w w' := by
  have HX := Lib.hid h
  obtain ⟨hv, hd1, hd2⟩ := shB_iff.1 hs
  have VX := Lib.hid hv
  have LV := Lib.hid hlv
  have hl := (vldS_iff.1 hv).1
  have h1' : decide (d < -600000) = false := by simp; omega
  have h2' : decide (600000 < d) = false := by simp; omega
  clear h hs hv hlv
  go_enter Try.func22, Try.ntmps22
  go_wp2_with fail
  refine (rvalid_b A C xs _ VX.out _ (by omega) HX.out).mono ?_
  rintro e w' ⟨rfl, hb⟩
  have HB := Lib.hid hb
  clear hb
  go_wp2_with fail
  refine (leaves_any A C xs d true _ LV.out VX.out hd1 hd2 (HX.out.below HB.out)).mono ?_
  rintro e w' ⟨rfl, rfl⟩
  go_wp2_with fail
  go_ret2
  exact ⟨rfl, HB.out⟩

theorem wrap_in {x : Int} (h1 : -2000000 ≤ x) (h2 : x ≤ 2000000) : IntKind.i64.wrap x = x := IntWalk.i64_in _ ⟨by omega, by omega⟩
theorem far_own {w : World} {base : Nat} {e : TypeId} {v : Value} {n b : Nat} {xs : List Value} (h : w.ownsRow base e 2 v n xs) (hb : b < base) : some b ≠ v.ownBlock := by
  intro he
  have := (h.lt b he.symm).1
  omega

set_option maxRecDepth 100000 in
set_option maxHeartbeats 2000000 in
theorem rshift_ok (A : Option Addr) (C : Nat) (xs : List Spn) (d : Int) (w : World) (h : SlS w A xs) (hs : shB xs d = true) (hlv : lv xs d = false) :
    Calls Try.prog 22 #[.slice A xs.length C, .int .i64 d] w (Gv (shS xs d) 0 w) := by
  obtain ⟨i0, hi0, hz0, hz1, hz2⟩ := info_parts (show (Try.prog.info? 39).map (fun i => (i.zero, i.size, i.bytes)) = some (some (.agg #[.int .i64 0, .int .i64 0]), 2, 16) by kernel_rfl)
  have HX := Lib.hid h
  obtain ⟨hv, hd1, hd2⟩ := shB_iff.1 hs
  have VX := Lib.hid hv
  have LV := Lib.hid hlv
  have HC := Lib.hid (vldS_iff.1 hv).2
  have hl := (vldS_iff.1 hv).1
  have h1' : decide (d < -600000) = false := by simp; omega
  have h2' : decide (600000 < d) = false := by simp; omega
  clear h hs hv hlv
  go_enter Try.func22, Try.ntmps22
  go_wp2_with fail
  refine (rvalid_b A C xs _ VX.out _ (by omega) HX.out).mono ?_
  rintro e w' ⟨rfl, hb⟩
  have HB := Lib.hid hb
  clear hb
  go_wp2_with fail
  refine (leaves_any A C xs d false _ LV.out VX.out hd1 hd2 (HX.out.below HB.out)).mono ?_
  rintro e w' ⟨rfl, rfl⟩
  go_wp2_with fail
  go_loopw [7, 8] (fun v i wr => ∃ k : Nat, k ≤ xs.length ∧ i = .int .i64 k ∧ wr.ownsRow w.heap.size 39 2 v k (flatV (shS (xs.take k) d)) ∧ Below w.heap.size w wr) (fun _ i _ => xs.length - (intOf i).toNat)
  case atStart => exact ⟨0, Nat.zero_le _, rfl, World.ownsRow_nil _ _ _ _, HB.out⟩
  case round =>
    clear HB
    obtain ⟨k, hk, rfl, hown, hb⟩ := hrel
    by_cases hlt : k < xs.length
    · obtain ⟨b, o, rfl, hc0, hd0⟩ := HX.out k hlt
      have hbl : b < w.heap.size := block_lt hc0
      have x0 : wr.cell? ⟨b, o + k * 2, none⟩ = some (.int .i64 (gdS xs k).1) := by rw [hb.cell hbl]; exact hc0
      have x1 : wr.cell? ⟨b, o + k * 2 + 1, none⟩ = some (.int .i64 (gdS xs k).2) := by rw [hb.cell hbl]; exact hd0
      obtain ⟨m1, m2, m3⟩ := chk_mem HC.out (gdS_mem hlt)
      have HT := Lib.hid (sh_take xs d hlt)
      have hsq := hb.size
      have hfar := far_own hown hbl
      have hi2 : (k : Int) < xs.length := by omega
      have hi1 : (0 : Int) ≤ (k : Int) := by omega
      clear hc0 hd0
      generalize (gdS xs k).1 = f at *
      generalize (gdS xs k).2 = u at *
      have hw1 : IntKind.i64.wrap (f + d) = f + d := wrap_in (by omega) (by omega)
      have hw2 : IntKind.i64.wrap (u + d) = u + d := wrap_in (by omega) (by omega)
      obtain ⟨OA, OC, rfl, -⟩ := own_form hown
      go_wp2_with fail
      go_region_held3 (fun W' => W'.cell? ⟨b, o + k * 2, none⟩ = some (.int .i64 f) ∧ W'.cell? ⟨b, o + k * 2 + 1, none⟩ = some (.int .i64 u))
        (first
          | go_keep
          | exact ⟨x0, x1⟩
          | (refine ⟨?_, ?_⟩
             · exact cell_far2 hgrow hfar x0
             · exact cell_far2 hgrow hfar x1))
        ((refine step_append_lies _ (by rfl) _ _ _ (by rfl) w.heap.size 39 i0 _ 2 16 Try.underlying22 hi0 hz0 hz1 hz2 rfl (by omega) (.slice OA k OC) k (flatV (shS (xs.take k) d)) (by rfl) ((hown.alloc _).drew)
            ⟨wr.heap.size, 0, none⟩ 1 1 [.int .i64 (f + d), .int .i64 (u + d)] (by rfl) (by rfl) (World.news_of_block (cs := #[.int .i64 (f + d), .int .i64 (u + d)]) (t := 39) (fr := (0, 0)) (heap_alloc_new wr _)) (by simp [Value.oneCell'])
            (by omega) (by unfold maxLen; omega) (by omega) (by simp; omega) (wr.heap.size + 1) (by simp) ?_; intro gg cap w5 hown1 hgrow hat hlt5))
      have hb1 := below_app hb hsq hown (Nat.le_refl _) (undrew hgrow)
      clear hgrow hat hlt5
      go_wp2_with fail
      rw [HT.out] at hown1
      go_roundw
      case rel => exact ⟨k + 1, by omega, by go_num, hown1, hb1⟩
      case measure => simp [intOf]; omega
    · have e2 : xs.take k = xs := List.take_of_length_le (by omega)
      have hk2 : k = (shS xs d).length := by rw [sh_len]; omega
      rw [e2] at hown
      rw [hk2] at hown
      obtain ⟨A2, C2, rfl, -, -, hls⟩ := own_slS hown
      have HLS := Lib.hid hls
      have HB := Lib.hid hb
      clear hown hls hb hk2 e2
      go_wp2_with fail
      go_ret2
      exact ⟨A2, C2, rfl, HLS.out, HB.out⟩
theorem rshift_any (A : Option Addr) (C : Nat) (xs : List Spn) (d : Int) (w : World) (zs : List Spn) (er : Int) (hz : shL xs d = zs) (her : shR xs d = er) (hl : xs.length ≤ 9223372036854775807) (h : SlS w A xs) :
    Calls Try.prog 22 #[.slice A xs.length C, .int .i64 d] w (Gv zs er w) := by
  subst hz her
  cases hs : shB xs d with
  | false =>
    rw [show shL xs d = [] by simp [shL, hs], show shR xs d = 1 by simp [shR, hs]]
    exact (rshift_bad A C xs d w hl h hs).mono fun _ _ h => gv_nil h
  | true =>
    cases hv : lv xs d with
    | true =>
      rw [show shL xs d = [] by simp [shL, hv], show shR xs d = 3 by simp [shR, hs, hv]]
      exact (rshift_out A C xs d w h hs hv).mono fun _ _ h => gv_nil h
    | false =>
      rw [show shL xs d = shS xs d by simp [shL, hs, hv], show shR xs d = 0 by simp [shR, hs, hv]]
      exact rshift_ok A C xs d w h hs hv
end Go.Proofs.Ytgdgpfpihpofdaa
