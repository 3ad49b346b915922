/-
  Package span: Shift.
-/
import Derived.Test.YtgdgpfpihpofdaaSpnS
namespace Go.Proofs.Ytgdgpfpihpofdaa
open Go.RowKit Go.Sort
open Go.RowKit (Below)
set_option linter.unusedVariables false

theorem sh_take (xs : List Spn) (d : Int) {k : Nat} (h : k < xs.length) : flatV (shS (xs.take k) d) ++ [.int .i64 ((gdS xs k).1 + d), .int .i64 ((gdS xs k).2 + d)] = flatV (shS (xs.take (k + 1)) d) := by
  rw [flat_snoc, takeS h]
  simp [shS]
/-- A shift is asked for that is none. -/
def shB (xs : List Spn) (d : Int) : Bool := vldS xs && (decide (-600000 ≤ d) && decide (d ≤ 600000))
theorem shB_iff {xs : List Spn} {d : Int} : shB xs d = true ↔ vldS xs = true ∧ -600000 ≤ d ∧ d ≤ 600000 := by simp [shB]
set_option maxRecDepth 100000 in
set_option maxHeartbeats 800000 in
theorem shift_bad (A : Option Addr) (C : Nat) (xs : List Spn) (d : Int) (w : World) (hl : xs.length ≤ 9223372036854775807) (h : SlS w A xs) (hb : shB xs d = false) :
    Calls Try.prog 21 #[.slice A xs.length C, .int .i64 d] w fun e w' => e = .returned (.tuple #[.slice none 0 0, .int .i64 1]) ∧ Below w.heap.size w w' := by
  have HV := Lib.hid (valid_any A C xs w (by omega) h)
  clear h
  cases hv : vldS xs with
  | false =>
    rw [hv] at HV
    clear hv hb
    go_enter Try.func21, Try.ntmps21
    go_wp2_with fail
    refine HV.out.mono ?_
    rintro e w' ⟨rfl, hb⟩
    go_wp2
    go_ret2
    exact ⟨rfl, hb⟩
  | true =>
    rw [hv] at HV
    by_cases h1 : d < -600000
    · clear hv hb
      go_enter Try.func21, Try.ntmps21
      go_wp2_with fail
      refine HV.out.mono ?_
      rintro e w' ⟨rfl, hb⟩
      go_wp2
      go_ret2
      exact ⟨rfl, hb⟩
    · have h1' : decide (d < -600000) = false := by simpa using h1
      have h2 : 600000 < d := by
        apply Classical.byContradiction
        intro hn
        have := (shB_iff (d := d)).2 ⟨hv, by omega, by omega⟩
        rw [hb] at this
        cases this
      clear hv hb
      go_enter Try.func21, Try.ntmps21
      go_wp2_with fail
      refine HV.out.mono ?_
      rintro e w' ⟨rfl, hb⟩
      go_wp2
      go_ret2
      exact ⟨rfl, hb⟩

/-- What Shift gives: the list, or that it leaves the minutes. -/
def ShE (xs : List Spn) (d : Int) (w : World) (e : Ending) (w' : World) : Prop :=
  (lv xs d = false ∧ ∃ A C, e = .returned (.tuple #[.slice A (shS xs d).length C, .int .i64 0]) ∧ Ls w' A C (shS xs d) ∧ Below w.heap.size w w') ∨
  (lv xs d = true ∧ e = .returned (.tuple #[.slice none 0 0, .int .i64 3]) ∧ Below w.heap.size w w')
theorem sh_vld {xs : List Spn} {d : Int} (hv : vldS xs = true) : vldS (shS xs d) = !lv xs d := by
  obtain ⟨h1, h2⟩ := vldS_iff.1 hv
  cases h : lv xs d with
  | false => rw [Bool.not_false, vldS_iff]; exact ⟨by rw [sh_len]; exact h1, sh_ok h2 h⟩
  | true =>
    rw [Bool.not_true, ← Bool.not_eq_true, vldS_iff]
    rintro ⟨_, hc⟩
    obtain ⟨m, hm, hn⟩ := (lv_iff h2).1 h
    have h3 : hasS (shS xs d) (m + d) = true := by rw [sh_has, show m + d - d = m by omega]; exact hm
    have h4 := has_gt hc h3
    have h5 := has_lt hc h3
    omega
set_option maxRecDepth 100000 in
set_option maxHeartbeats 1600000 in
theorem shift_ok (A : Option Addr) (C : Nat) (xs : List Spn) (d : Int) (w : World) (h : SlS w A xs) (hb : shB xs d = true) :
    Calls Try.prog 21 #[.slice A xs.length C, .int .i64 d] w (ShE xs d w) := by
  obtain ⟨i0, hi0, hz0, hz1, hz2⟩ := info_parts (show (Try.prog.info? 39).map (fun i => (i.zero, i.size, i.bytes)) = some (some (.agg #[.int .i64 0, .int .i64 0]), 2, 16) by kernel_rfl)
  obtain ⟨hv, hd1, hd2⟩ := shB_iff.1 hb
  have hl := (vldS_iff.1 hv).1
  have HV := Lib.hid (valid_any A C xs w (by omega) h)
  rw [hv] at HV
  have HC := Lib.hid (vldS_iff.1 hv).2
  have H := Lib.hid h
  have HS := Lib.hid (sh_vld (d := d) hv)
  have h1' : decide (d < -600000) = false := by simp; omega
  have h2' : decide (600000 < d) = false := by simp; omega
  clear hv hb h
  go_enter Try.func21, Try.ntmps21
  go_wp2_with fail
  refine HV.out.mono ?_
  rintro e w' ⟨rfl, hb0⟩
  go_wp2_with fail
  go_loopw [6, 22] (fun v i wr => ∃ k : Nat, k ≤ xs.length ∧ i = .int .i64 k ∧ wr.ownsRow w.heap.size 39 2 v k (flatV (shS (xs.take k) d)) ∧ Below w.heap.size w wr) (fun _ i _ => xs.length - (intOf i).toNat)
  case atStart => exact ⟨0, Nat.zero_le _, rfl, World.ownsRow_nil _ _ _ _, hb0⟩
  case round =>
    clear hb0
    obtain ⟨k, hk, rfl, hown, hb⟩ := hrel
    by_cases hlt : k < xs.length
    · obtain ⟨b, o, rfl, hc0, hd0⟩ := H.out k hlt
      have hbl : b < w.heap.size := block_lt hc0
      have hc : wr.cell? ⟨b, o + k * 2, none⟩ = some (.int .i64 (gdS xs k).1) := by rw [hb.cell hbl]; exact hc0
      have hd : wr.cell? ⟨b, o + k * 2 + 1, none⟩ = some (.int .i64 (gdS xs k).2) := by rw [hb.cell hbl]; exact hd0
      obtain ⟨m1, m2, m3⟩ := chk_mem HC.out (gdS_mem hlt)
      have HT := Lib.hid (sh_take xs d hlt)
      have hsz := hb.size
      clear hc0 hd0
      generalize (gdS xs k).1 = f at *
      generalize (gdS xs k).2 = u at *
      go_wp2_with (first
        | (at_builtin; refine wpList_append_own _ rfl (.tmp 26) (.tmp 36) 22 rfl w.heap.size 39 i0 (.agg #[.int .i64 0, .int .i64 0]) 2 16 Try.underlying22 hi0 hz0 hz1 hz2 rfl (by decide) _ _ _ rfl ((hown.alloc _).alloc _) ⟨wr.heap.size + 1, 0, none⟩ 1 1 [.int .i64 (f + d), .int .i64 (u + d)] rfl rfl (new_two2 _ _ _ _ _) two_cell (by unfold maxLen; omega) (by omega) (by simp; omega) ?_; intro v1 w2 hown1 hgr1 hzz; clear hzz; have hb2 := below_app (hb.alloc hsz _) (by simp; omega) (hown.alloc _) (Nat.le_refl _) hgr1))
      rw [HT.out] at hown1
      go_roundw
      case rel => exact ⟨k + 1, by omega, by go_num, hown1, hb2⟩
      case measure => simp [intOf]; omega
    · have hk2 : k = (shS (xs.take k) d).length := by rw [sh_len]; simp; omega
      have e2 : xs.take k = xs := List.take_of_length_le (by omega)
      rw [e2] at hown hk2
      rw [hk2] at hown
      obtain ⟨A2, C2, rfl, hls⟩ := own_ls hown
      have HLS := Lib.hid hls
      have HB := Lib.hid hb
      have HV2 := Lib.hid (valid_any A2 C2 (shS xs d) wr (by rw [← hk2]; omega) hls.sl)
      clear hown hls hb hk2 e2
      cases hlv : lv xs d with
      | false =>
        have HLV := Lib.hid hlv
        rw [HS.out, hlv] at HV2
        clear hlv
        go_wp2_with fail
        refine HV2.out.mono ?_
        rintro e w2 ⟨rfl, hb2⟩
        have HLS2 := Lib.hid (HLS.out.below hb2)
        have HB2 := Lib.hid (on_below HB.out hb2)
        clear hb2
        go_wp2
        go_ret2
        exact .inl ⟨HLV.out, A2, C2, rfl, HLS2.out, HB2.out⟩
      | true =>
        have HLV := Lib.hid hlv
        rw [HS.out, hlv] at HV2
        clear hlv
        go_wp2_with fail
        refine HV2.out.mono ?_
        rintro e w2 ⟨rfl, hb2⟩
        have HB2 := Lib.hid (on_below HB.out hb2)
        clear hb2
        go_wp2
        go_ret2
        exact .inr ⟨HLV.out, rfl, HB2.out⟩
end Go.Proofs.Ytgdgpfpihpofdaa
