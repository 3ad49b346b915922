/-
  The laws' callees, in the forms that the laws take.
-/
import Derived.Test.YtgdgpfpihpofdaaSpnT
namespace Go.Proofs.Ytgdgpfpihpofdaa
open Go.RowKit Go.Sort
open Go.RowKit (Below)
set_option linter.unusedVariables false

/-- A list and no error. -/
def GotL (zs : List Spn) (w : World) (e : Ending) (w' : World) : Prop := ∃ A C, e = .returned (.tuple #[.slice A zs.length C, .int .i64 0]) ∧ Ls w' A C zs ∧ Below w.heap.size w w'
theorem got_of {zs : List Spn} {w : World} {e : Ending} {w' : World} (hl : zs.length ≤ 1000) (h : CmbE zs w e w') : GotL zs w e w' := by
  rcases h with ⟨_, A, C, h⟩ | ⟨h, _⟩
  · exact ⟨A, C, h⟩
  · omega
section
variable (A B : Option Addr) (C D : Nat) (xs ys : List Spn) (w : World)
theorem cmb_len {op : Bool → Bool → Bool} (h0 : op false false = false) (vx : vldS xs = true) (vy : vldS ys = true) (hl : xs.length + ys.length ≤ 500) : (cmb op xs ys).length ≤ 1000 := by
  have := (cmb_spec h0 (vldS_iff.1 vx).2 (vldS_iff.1 vy).2).2.2
  omega
theorem cmb_vld {op : Bool → Bool → Bool} (h0 : op false false = false) (vx : vldS xs = true) (vy : vldS ys = true) (hl : xs.length + ys.length ≤ 500) : vldS (cmb op xs ys) = true :=
  vldS_iff.2 ⟨cmb_len xs ys h0 vx vy hl, (cmb_spec h0 (vldS_iff.1 vx).2 (vldS_iff.1 vy).2).1⟩
theorem union_got (zs : List Spn) (hz : cmb opO xs ys = zs) (vx : vldS xs = true) (vy : vldS ys = true) (hl : xs.length + ys.length ≤ 500) (hx : Ls w A C xs) (hy : Ls w B D ys) :
    Calls Try.prog 14 #[.slice A xs.length C, .slice B ys.length D] w (GotL zs w) := by
  subst hz; exact (union_ok A B C D xs ys w hx hy vx vy).mono fun _ _ h => got_of (cmb_len xs ys rfl vx vy hl) h
theorem common_got (zs : List Spn) (hz : cmb opA xs ys = zs) (vx : vldS xs = true) (vy : vldS ys = true) (hl : xs.length + ys.length ≤ 500) (hx : Ls w A C xs) (hy : Ls w B D ys) :
    Calls Try.prog 17 #[.slice A xs.length C, .slice B ys.length D] w (GotL zs w) := by
  subst hz; exact (common_ok A B C D xs ys w hx hy vx vy).mono fun _ _ h => got_of (cmb_len xs ys rfl vx vy hl) h
theorem minus_got (zs : List Spn) (hz : cmb opD xs ys = zs) (vx : vldS xs = true) (vy : vldS ys = true) (hl : xs.length + ys.length ≤ 500) (hx : Ls w A C xs) (hy : Ls w B D ys) :
    Calls Try.prog 19 #[.slice A xs.length C, .slice B ys.length D] w (GotL zs w) := by
  subst hz; exact (minus_ok A B C D xs ys w hx hy vx vy).mono fun _ _ h => got_of (cmb_len xs ys rfl vx vy hl) h
theorem length_got (n : Int) (hn : cntS xs = n) (vx : vldS xs = true) (hx : Ls w A C xs) :
    Calls Try.prog 23 #[.slice A xs.length C] w fun e w' => e = .returned (.tuple #[.int .i64 n, .int .i64 0]) ∧ Below w.heap.size w w' := by
  have hl := (vldS_iff.1 vx).1
  have := length_any A C xs w (by omega) hx.sl
  rwa [show lenN xs = n by simp [lenN, vx, hn], show lenE xs = 0 by simp [lenE, vx]] at this
theorem has_got (m : Int) (b : Bool) (hb : hasS xs m = b) (vx : vldS xs = true) (hm : minu m = true) (hx : Ls w A C xs) :
    Calls Try.prog 25 #[.slice A xs.length C, .int .i64 m] w fun e w' => e = .returned (.tuple #[.bool b, .int .i64 0]) ∧ Below w.heap.size w w' := by
  have hl := (vldS_iff.1 vx).1
  have := hasf_any A C xs m w (by omega) hx
  rwa [show hasV xs m = b by simp [hasV, vx, hm, hb], show hasE xs m = 0 by simp [hasE, vx, hm]] at this
theorem shift_got (d : Int) (zs : List Spn) (hz : shS xs d = zs) (hd : shB xs d = true) (hv : lv xs d = false) (hx : Ls w A C xs) :
    Calls Try.prog 21 #[.slice A xs.length C, .int .i64 d] w (GotL zs w) := by
  subst hz
  refine (shift_ok A C xs d w hx.sl hd).mono ?_
  rintro e w' (⟨_, h⟩ | ⟨h, _⟩)
  · exact h
  · rw [hv] at h; cases h
theorem shift_out (d : Int) (hd : shB xs d = true) (hv : lv xs d = true) (hx : Ls w A C xs) :
    Calls Try.prog 21 #[.slice A xs.length C, .int .i64 d] w fun e w' => e = .returned (.tuple #[.slice none 0 0, .int .i64 3]) ∧ Below w.heap.size w w' := by
  refine (shift_ok A C xs d w hx.sl hd).mono ?_
  rintro e w' (⟨h, _⟩ | ⟨_, h⟩)
  · rw [hv] at h; cases h
  · exact h
theorem same_got (b : Bool) (hb : decide (xs = ys) = b) (hl : xs.length ≤ 1000) (hl2 : ys.length ≤ 1000) (hx : Ls w A C xs) (hy : Ls w B D ys) :
    Calls Try.prog 16 #[.slice A xs.length C, .slice B ys.length D] w fun e w' => e = .returned (.bool b) ∧ Below w.heap.size w w' := by
  subst hb
  exact (rsame_any A B C D xs ys w (by omega) (by omega) hx.sl hy.sl).mono fun e w' ⟨he, n, hw⟩ => ⟨he, by subst hw; exact below_drewN' (Below.refl _ _) n⟩
end

/-- Both are valid and short. -/
def pr (xs ys : List Spn) : Bool := decide (xs.length ≤ 40) && decide (ys.length ≤ 40) && vldS xs && vldS ys
theorem pr_iff {xs ys : List Spn} : pr xs ys = true ↔ xs.length ≤ 40 ∧ ys.length ≤ 40 ∧ vldS xs = true ∧ vldS ys = true := by simp [pr, and_assoc]
theorem few_b (A : Option Addr) (C n : Nat) (b : Bool) (hb : decide (n ≤ 40) = b) (w : World) : Calls Try.prog 11 #[.slice A n C] w fun e w' => e = .returned (.bool b) ∧ w = w' := by subst hb; exact rfew_any A C n w
set_option maxRecDepth 100000 in
set_option maxHeartbeats 1000000 in
theorem pair_any (A B : Option Addr) (C D : Nat) (xs ys : List Spn) (w : World) (hl : xs.length ≤ 9223372036854775807) (hl2 : ys.length ≤ 9223372036854775807) (hx : SlS w A xs) (hy : SlS w B ys) :
    Calls Try.prog 27 #[.slice A xs.length C, .slice B ys.length D] w fun e w' => e = .returned (.bool (pr xs ys)) ∧ Below w.heap.size w w' := by
  have HX := Lib.hid hx
  have HY := Lib.hid hy
  clear hx hy
  cases h1 : decide (xs.length ≤ 40) with
  | false =>
    have HP := Lib.hid (show false = pr xs ys by simp [pr, h1])
    have H1 := Lib.hid h1
    clear h1
    go_enter Try.func27, Try.ntmps27
    go_wp2_with fail
    refine (few_b _ _ _ _ H1.out _).mono ?_
    rintro e w' ⟨rfl, rfl⟩
    go_wp2_with fail
    go_ret
    exact ⟨ret_bool HP.out, Below.refl _ _⟩
  | true =>
    cases h2 : decide (ys.length ≤ 40) with
    | false =>
      have HP := Lib.hid (show false = pr xs ys by simp [pr, h2])
      have H1 := Lib.hid h1
      have H2 := Lib.hid h2
      clear h1 h2
      go_enter Try.func27, Try.ntmps27
      go_wp2_with fail
      refine (few_b _ _ _ _ H1.out _).mono ?_
      rintro e w' ⟨rfl, rfl⟩
      go_wp2_with fail
      refine (few_b _ _ _ _ H2.out _).mono ?_
      rintro e w' ⟨rfl, rfl⟩
      go_wp2_with fail
      go_ret
      exact ⟨ret_bool HP.out, Below.refl _ _⟩
    | true =>
      cases h3 : vldS xs with
      | false =>
        have HP := Lib.hid (show false = pr xs ys by simp [pr, h3])
        have H1 := Lib.hid h1
        have H2 := Lib.hid h2
        have H3 := Lib.hid h3
        clear h1 h2 h3
        go_enter Try.func27, Try.ntmps27
        go_wp2_with fail
        refine (few_b _ _ _ _ H1.out _).mono ?_
        rintro e w' ⟨rfl, rfl⟩
        go_wp2_with fail
        refine (few_b _ _ _ _ H2.out _).mono ?_
        rintro e w' ⟨rfl, rfl⟩
        go_wp2_with fail
        refine (rvalid_b A C xs _ H3.out _ hl HX.out).mono ?_
        rintro e w' ⟨rfl, hb⟩
        go_wp2_with fail
        go_ret
        exact ⟨ret_bool HP.out, hb⟩
      | true =>
        have HP := Lib.hid (show vldS ys = pr xs ys by simp [pr, h1, h2, h3])
        have H1 := Lib.hid h1
        have H2 := Lib.hid h2
        have H3 := Lib.hid h3
        clear h1 h2 h3
        go_enter Try.func27, Try.ntmps27
        go_wp2_with fail
        refine (few_b _ _ _ _ H1.out _).mono ?_
        rintro e w' ⟨rfl, rfl⟩
        go_wp2_with fail
        refine (few_b _ _ _ _ H2.out _).mono ?_
        rintro e w' ⟨rfl, rfl⟩
        go_wp2_with fail
        refine (rvalid_b A C xs _ H3.out _ hl HX.out).mono ?_
        rintro e w' ⟨rfl, hb⟩
        have HB := Lib.hid hb
        clear hb
        go_wp2_with fail
        refine (rvalid_b B D ys _ rfl _ hl2 (HY.out.below HB.out)).mono ?_
        rintro e w' ⟨rfl, hb⟩
        have HB2 := Lib.hid (on_below HB.out hb)
        clear hb
        go_wp2_with fail
        go_ret
        exact ⟨ret_bool HP.out, HB2.out⟩

theorem lastU_gd : ∀ {xs : List Spn} {p : Int}, 0 < xs.length → lastU p xs = (gdS xs (xs.length - 1)).2
  | [s], p, _ => rfl
  | s :: t :: r, p, _ => by
    have := lastU_gd (xs := t :: r) (p := s.2) (by simp)
    show lastU s.2 (t :: r) = _
    rw [this]
    simp [gdS]
set_option maxRecDepth 100000 in
set_option maxHeartbeats 1000000 in
theorem leaves_any (A : Option Addr) (C : Nat) (xs : List Spn) (d : Int) (b : Bool) (w : World) (hb : lv xs d = b) (hv : vldS xs = true) (hd1 : -600000 ≤ d) (hd2 : d ≤ 600000) (hx : SlS w A xs) :
    Calls Try.prog 29 #[.slice A xs.length C, .int .i64 d] w fun e w' => e = .returned (.bool b) ∧ w = w' := by
  subst hb
  have hl := (vldS_iff.1 hv).1
  have hc := (vldS_iff.1 hv).2
  cases xs with
  | nil =>
    go_enter Try.func29, Try.ntmps29
    go_wp2
    go_ret
    exact ⟨rfl, rfl⟩
  | cons s r =>
    have hpos : 0 < (s :: r).length := by simp
    obtain ⟨b0, o0, rfl, hc0, _⟩ := hx 0 hpos
    obtain ⟨b1, o1, e1, _, hd0⟩ := hx ((s :: r).length - 1) (by omega)
    injection e1 with e1
    injection e1 with e1 e2
    subst e1 e2
    have hc1 : w.cell? ⟨b0, o0, none⟩ = some (.int .i64 s.1) := hc0
    rw [← lastU_gd (p := 0) hpos] at hd0
    have HL := Lib.hid (show lv (s :: r) d = (decide (s.1 + d < 0) || decide (600001 < lastU 0 (s :: r) + d)) from rfl)
    have hm := chk_mem hc (s := s) (by simp)
    have hu := lastU_up hc (by omega : (-1 : Int) ≤ 600001)
    have hu2 : lastU (-1) (s :: r) = lastU 0 (s :: r) := rfl
    rw [hu2] at hu
    obtain ⟨hm1, hm2, hm3⟩ := hm
    obtain ⟨hu3, hu4⟩ := hu
    generalize lastU 0 (s :: r) = u at *
    rw [HL.out]
    obtain ⟨n, hn⟩ : ∃ n, (s :: r).length = n := ⟨_, rfl⟩
    rw [hn] at hpos hl hd0 ⊢
    clear hc hv hx hc0 HL hn hu2
    generalize s.1 = f at *
    have hn1 : 0 < n := hpos
    by_cases c1 : f + d < 0
    · go_enter Try.func29, Try.ntmps29
      go_wp2
      go_ret
      exact ⟨ret_bool (by simp), rfl⟩
    · have c1' : decide (f + d < 0) = false := by simpa using c1
      by_cases c2 : 600001 < u + d
      · go_enter Try.func29, Try.ntmps29
        go_wp2
        go_ret
        exact ⟨ret_bool (by simp), rfl⟩
      · have c2' : decide (600001 < u + d) = false := by simpa using c2
        go_enter Try.func29, Try.ntmps29
        go_wp2
        go_ret
        exact ⟨ret_bool rfl, rfl⟩
end Go.Proofs.Ytgdgpfpihpofdaa
