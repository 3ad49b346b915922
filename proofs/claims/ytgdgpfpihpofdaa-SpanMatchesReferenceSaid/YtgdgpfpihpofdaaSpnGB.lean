/-
  The reference of package span: combine, Union, Common, Minus, Has, Shift.
-/
import Derived.Test.YtgdgpfpihpofdaaSpnG
import Derived.Test.YtgdgpfpihpofdaaSpnU
namespace Go.Proofs.Ytgdgpfpihpofdaa
open Go.RowKit Go.Sort
open Go.RowKit (Below)
set_option linter.unusedVariables false

/-- A list, and an error's number. -/
def Gv (zs : List Spn) (er : Int) (w : World) (e : Ending) (w' : World) : Prop := ∃ A C, e = .returned (.tuple #[.slice A zs.length C, .int .i64 er]) ∧ SlS w' A zs ∧ Below w.heap.size w w'
theorem gv_nil {er : Int} {w : World} {e : Ending} {w' : World} (h : e = .returned (.tuple #[.slice none 0 0, .int .i64 er]) ∧ Below w.heap.size w w') : Gv [] er w e w' := ⟨none, 0, h.1, SlS.nil _ _, h.2⟩

set_option maxRecDepth 100000 in
set_option maxHeartbeats 1000000 in
theorem rcombine_ok (op : Bool → Bool → Bool) (h0 : op false false = false) (K : Int) (htk : ∀ a b W, Calls Try.prog 44 #[.int .i64 K, .bool a, .bool b] W fun e w' => e = .returned (.bool (op a b)) ∧ W = w') (A B : Option Addr) (C D : Nat) (xs ys : List Spn) (w : World) (hx : SlS w A xs) (hy : SlS w B ys) (vx : vldS xs = true) (vy : vldS ys = true) (hl : xs.length + ys.length ≤ 500) :
    Calls Try.prog 32 #[.int .i64 K, .slice A xs.length C, .slice B ys.length D] w (Gv (cmb op xs ys) 0 w) := by
  have HX := Lib.hid hx
  have HY := Lib.hid hy
  have VX := Lib.hid vx
  have VY := Lib.hid vy
  have HC := Lib.hid (fun W (h1 : SlS W A xs) (h2 : SlS W B ys) => rcomb_any op h0 K htk A B C D xs ys W (by omega) (by omega) h1 h2 (vldS_iff.1 vx).2 (vldS_iff.1 vy).2)
  have hz := cmb_len (op := op) xs ys h0 vx vy hl
  clear hx hy vx vy htk h0
  go_enter Try.func32, Try.ntmps32
  go_wp2_with fail
  refine (rvalid_b A C xs _ VX.out _ (by omega) HX.out).mono ?_
  rintro e w' ⟨rfl, hb⟩
  have HB := Lib.hid hb
  clear hb
  go_wp2_with fail
  refine (rvalid_b B D ys _ VY.out _ (by omega) (HY.out.below HB.out)).mono ?_
  rintro e w' ⟨rfl, hb⟩
  replace HB := Lib.hid (on_below HB.out hb)
  clear hb
  go_wp2_with fail
  refine (HC.out _ (HX.out.below HB.out) (HY.out.below HB.out)).mono ?_
  rintro e w' ⟨A', C', rfl, hs, hb⟩
  replace HB := Lib.hid (on_below HB.out hb)
  have HS := Lib.hid hs
  clear hb hs HC
  generalize cmb op xs ys = zs at *
  go_wp2_with fail
  go_ret2
  exact ⟨A', C', rfl, HS.out, HB.out⟩

set_option maxRecDepth 100000 in
set_option maxHeartbeats 1000000 in
theorem rcombine_bad (K : Int) (A B : Option Addr) (C D : Nat) (xs ys : List Spn) (w : World) (hl : xs.length ≤ 9223372036854775807) (hl2 : ys.length ≤ 9223372036854775807) (hx : SlS w A xs) (hy : SlS w B ys) (hv : (vldS xs && vldS ys) = false) :
    Calls Try.prog 32 #[.int .i64 K, .slice A xs.length C, .slice B ys.length D] w fun e w' => e = .returned (.tuple #[.slice none 0 0, .int .i64 1]) ∧ Below w.heap.size w w' := by
  have HX := Lib.hid hx
  have HY := Lib.hid hy
  clear hx hy
  obtain ⟨v1, h1⟩ : ∃ b, vldS xs = b := ⟨_, rfl⟩
  obtain ⟨v2, h2⟩ : ∃ b, vldS ys = b := ⟨_, rfl⟩
  rw [h1, h2] at hv
  have VX := Lib.hid h1
  have VY := Lib.hid h2
  clear h1 h2
  have key : v1 = false ∨ v1 = true ∧ v2 = false := by cases v1 <;> cases v2 <;> simp_all
  clear hv
  rcases key with rfl | ⟨rfl, rfl⟩
  all_goals
    go_enter Try.func32, Try.ntmps32
    go_wp2_with fail
    refine (rvalid_b A C xs _ VX.out _ hl HX.out).mono ?_
    rintro e w' ⟨rfl, hb⟩
    have HB := Lib.hid hb
    clear hb
    go_wp2_with fail
    refine (rvalid_b B D ys _ VY.out _ hl2 (HY.out.below HB.out)).mono ?_
    rintro e w' ⟨rfl, hb⟩
    replace HB := Lib.hid (on_below HB.out hb)
    clear hb
    go_wp2_with fail
    go_ret2
    exact ⟨rfl, HB.out⟩

/-- What a combination gives. -/
noncomputable def cmbL (op : Bool → Bool → Bool) (xs ys : List Spn) : List Spn := if (vldS xs && vldS ys) = true then cmb op xs ys else []
def cmbR (xs ys : List Spn) : Int := if (vldS xs && vldS ys) = true then 0 else 1

set_option maxRecDepth 100000 in
set_option maxHeartbeats 1000000 in
theorem runion_any (A B : Option Addr) (C D : Nat) (xs ys : List Spn) (w : World) (zs : List Spn) (er : Int) (hz : cmbL opO xs ys = zs) (her : cmbR xs ys = er) (hl : xs.length ≤ 9223372036854775807) (hl2 : ys.length ≤ 9223372036854775807) (hb : (vldS xs && vldS ys) = true → xs.length + ys.length ≤ 500) (hx : SlS w A xs) (hy : SlS w B ys) :
    Calls Try.prog 15 #[.slice A xs.length C, .slice B ys.length D] w (Gv zs er w) := by
  subst hz her
  cases hv : vldS xs && vldS ys with
  | false =>
    rw [show cmbL opO xs ys = [] by simp [cmbL, hv], show cmbR xs ys = 1 by simp [cmbR, hv]]
    have HC := Lib.hid (rcombine_bad 1 A B C D xs ys w hl hl2 hx hy hv)
    clear hx hy hv hb
    go_enter Try.func15, Try.ntmps15
    go_wp2_with fail
    refine HC.out.mono ?_
    rintro e w' ⟨rfl, hb⟩
    have HB := Lib.hid hb
    clear hb HC
    go_wp2
    go_ret2
    exact gv_nil ⟨rfl, HB.out⟩
  | true =>
    have ⟨vx, vy⟩ : vldS xs = true ∧ vldS ys = true := by simpa using hv
    rw [show cmbL opO xs ys = cmb opO xs ys by simp [cmbL, hv], show cmbR xs ys = 0 by simp [cmbR, hv]]
    have HC := Lib.hid (rcombine_ok opO rfl 1 rtaken_1 A B C D xs ys w hx hy vx vy (hb hv))
    clear hx hy hv hb vx vy
    generalize cmb opO xs ys = zs at *
    go_enter Try.func15, Try.ntmps15
    go_wp2_with fail
    refine HC.out.mono ?_
    rintro e w' ⟨A', C', rfl, hs, hb⟩
    have HB := Lib.hid hb
    have HS := Lib.hid hs
    clear hb hs HC
    go_wp2
    go_ret2
    exact ⟨A', C', rfl, HS.out, HB.out⟩
theorem union_any (A B : Option Addr) (C D : Nat) (xs ys : List Spn) (w : World) (zs : List Spn) (er : Int) (hz : cmbL opO xs ys = zs) (her : cmbR xs ys = er) (hb : (vldS xs && vldS ys) = true → xs.length + ys.length ≤ 500) (hx : Ls w A C xs) (hy : Ls w B D ys) :
    Calls Try.prog 14 #[.slice A xs.length C, .slice B ys.length D] w (Gv zs er w) := by
  subst hz her
  cases hv : vldS xs && vldS ys with
  | false =>
    rw [show cmbL opO xs ys = [] by simp [cmbL, hv], show cmbR xs ys = 1 by simp [cmbR, hv]]
    exact (union_bad A B C D xs ys w (Nat.le_trans hx.cap.1 hx.cap.2) (Nat.le_trans hy.cap.1 hy.cap.2) hx.sl hy.sl hv).mono fun _ _ h => gv_nil h
  | true =>
    have ⟨vx, vy⟩ : vldS xs = true ∧ vldS ys = true := by simpa using hv
    rw [show cmbL opO xs ys = cmb opO xs ys by simp [cmbL, hv], show cmbR xs ys = 0 by simp [cmbR, hv]]
    exact (union_got A B C D xs ys w _ rfl vx vy (hb hv) hx hy).mono fun _ _ ⟨A', C', he, hl, hB⟩ => ⟨A', C', he, hl.sl, hB⟩

set_option maxRecDepth 100000 in
set_option maxHeartbeats 1000000 in
theorem rcommon_any (A B : Option Addr) (C D : Nat) (xs ys : List Spn) (w : World) (zs : List Spn) (er : Int) (hz : cmbL opA xs ys = zs) (her : cmbR xs ys = er) (hl : xs.length ≤ 9223372036854775807) (hl2 : ys.length ≤ 9223372036854775807) (hb : (vldS xs && vldS ys) = true → xs.length + ys.length ≤ 500) (hx : SlS w A xs) (hy : SlS w B ys) :
    Calls Try.prog 18 #[.slice A xs.length C, .slice B ys.length D] w (Gv zs er w) := by
  subst hz her
  cases hv : vldS xs && vldS ys with
  | false =>
    rw [show cmbL opA xs ys = [] by simp [cmbL, hv], show cmbR xs ys = 1 by simp [cmbR, hv]]
    have HC := Lib.hid (rcombine_bad 2 A B C D xs ys w hl hl2 hx hy hv)
    clear hx hy hv hb
    go_enter Try.func18, Try.ntmps18
    go_wp2_with fail
    refine HC.out.mono ?_
    rintro e w' ⟨rfl, hb⟩
    have HB := Lib.hid hb
    clear hb HC
    go_wp2
    go_ret2
    exact gv_nil ⟨rfl, HB.out⟩
  | true =>
    have ⟨vx, vy⟩ : vldS xs = true ∧ vldS ys = true := by simpa using hv
    rw [show cmbL opA xs ys = cmb opA xs ys by simp [cmbL, hv], show cmbR xs ys = 0 by simp [cmbR, hv]]
    have HC := Lib.hid (rcombine_ok opA rfl 2 rtaken_2 A B C D xs ys w hx hy vx vy (hb hv))
    clear hx hy hv hb vx vy
    generalize cmb opA xs ys = zs at *
    go_enter Try.func18, Try.ntmps18
    go_wp2_with fail
    refine HC.out.mono ?_
    rintro e w' ⟨A', C', rfl, hs, hb⟩
    have HB := Lib.hid hb
    have HS := Lib.hid hs
    clear hb hs HC
    go_wp2
    go_ret2
    exact ⟨A', C', rfl, HS.out, HB.out⟩
theorem common_any (A B : Option Addr) (C D : Nat) (xs ys : List Spn) (w : World) (zs : List Spn) (er : Int) (hz : cmbL opA xs ys = zs) (her : cmbR xs ys = er) (hb : (vldS xs && vldS ys) = true → xs.length + ys.length ≤ 500) (hx : Ls w A C xs) (hy : Ls w B D ys) :
    Calls Try.prog 17 #[.slice A xs.length C, .slice B ys.length D] w (Gv zs er w) := by
  subst hz her
  cases hv : vldS xs && vldS ys with
  | false =>
    rw [show cmbL opA xs ys = [] by simp [cmbL, hv], show cmbR xs ys = 1 by simp [cmbR, hv]]
    exact (common_bad A B C D xs ys w (Nat.le_trans hx.cap.1 hx.cap.2) (Nat.le_trans hy.cap.1 hy.cap.2) hx.sl hy.sl hv).mono fun _ _ h => gv_nil h
  | true =>
    have ⟨vx, vy⟩ : vldS xs = true ∧ vldS ys = true := by simpa using hv
    rw [show cmbL opA xs ys = cmb opA xs ys by simp [cmbL, hv], show cmbR xs ys = 0 by simp [cmbR, hv]]
    exact (common_got A B C D xs ys w _ rfl vx vy (hb hv) hx hy).mono fun _ _ ⟨A', C', he, hl, hB⟩ => ⟨A', C', he, hl.sl, hB⟩

set_option maxRecDepth 100000 in
set_option maxHeartbeats 1000000 in
theorem rminus_any (A B : Option Addr) (C D : Nat) (xs ys : List Spn) (w : World) (zs : List Spn) (er : Int) (hz : cmbL opD xs ys = zs) (her : cmbR xs ys = er) (hl : xs.length ≤ 9223372036854775807) (hl2 : ys.length ≤ 9223372036854775807) (hb : (vldS xs && vldS ys) = true → xs.length + ys.length ≤ 500) (hx : SlS w A xs) (hy : SlS w B ys) :
    Calls Try.prog 20 #[.slice A xs.length C, .slice B ys.length D] w (Gv zs er w) := by
  subst hz her
  cases hv : vldS xs && vldS ys with
  | false =>
    rw [show cmbL opD xs ys = [] by simp [cmbL, hv], show cmbR xs ys = 1 by simp [cmbR, hv]]
    have HC := Lib.hid (rcombine_bad 3 A B C D xs ys w hl hl2 hx hy hv)
    clear hx hy hv hb
    go_enter Try.func20, Try.ntmps20
    go_wp2_with fail
    refine HC.out.mono ?_
    rintro e w' ⟨rfl, hb⟩
    have HB := Lib.hid hb
    clear hb HC
    go_wp2
    go_ret2
    exact gv_nil ⟨rfl, HB.out⟩
  | true =>
    have ⟨vx, vy⟩ : vldS xs = true ∧ vldS ys = true := by simpa using hv
    rw [show cmbL opD xs ys = cmb opD xs ys by simp [cmbL, hv], show cmbR xs ys = 0 by simp [cmbR, hv]]
    have HC := Lib.hid (rcombine_ok opD rfl 3 rtaken_3 A B C D xs ys w hx hy vx vy (hb hv))
    clear hx hy hv hb vx vy
    generalize cmb opD xs ys = zs at *
    go_enter Try.func20, Try.ntmps20
    go_wp2_with fail
    refine HC.out.mono ?_
    rintro e w' ⟨A', C', rfl, hs, hb⟩
    have HB := Lib.hid hb
    have HS := Lib.hid hs
    clear hb hs HC
    go_wp2
    go_ret2
    exact ⟨A', C', rfl, HS.out, HB.out⟩
theorem minus_any (A B : Option Addr) (C D : Nat) (xs ys : List Spn) (w : World) (zs : List Spn) (er : Int) (hz : cmbL opD xs ys = zs) (her : cmbR xs ys = er) (hb : (vldS xs && vldS ys) = true → xs.length + ys.length ≤ 500) (hx : Ls w A C xs) (hy : Ls w B D ys) :
    Calls Try.prog 19 #[.slice A xs.length C, .slice B ys.length D] w (Gv zs er w) := by
  subst hz her
  cases hv : vldS xs && vldS ys with
  | false =>
    rw [show cmbL opD xs ys = [] by simp [cmbL, hv], show cmbR xs ys = 1 by simp [cmbR, hv]]
    exact (minus_bad A B C D xs ys w (Nat.le_trans hx.cap.1 hx.cap.2) (Nat.le_trans hy.cap.1 hy.cap.2) hx.sl hy.sl hv).mono fun _ _ h => gv_nil h
  | true =>
    have ⟨vx, vy⟩ : vldS xs = true ∧ vldS ys = true := by simpa using hv
    rw [show cmbL opD xs ys = cmb opD xs ys by simp [cmbL, hv], show cmbR xs ys = 0 by simp [cmbR, hv]]
    exact (minus_got A B C D xs ys w _ rfl vx vy (hb hv) hx hy).mono fun _ _ ⟨A', C', he, hl, hB⟩ => ⟨A', C', he, hl.sl, hB⟩

set_option maxRecDepth 100000 in
set_option maxHeartbeats 800000 in
theorem rhasf_any (A : Option Addr) (C : Nat) (xs : List Spn) (m : Int) (w : World) (b : Bool) (er : Int) (hb : hasV xs m = b) (her : hasE xs m = er) (hl : xs.length ≤ 9223372036854775807) (h : SlS w A xs) :
    Calls Try.prog 26 #[.slice A xs.length C, .int .i64 m] w fun e w' => e = .returned (.tuple #[.bool b, .int .i64 er]) ∧ Below w.heap.size w w' := by
  subst hb her
  have HX := Lib.hid h
  clear h
  cases hv : vldS xs with
  | false =>
    have e1 := Lib.hid (show false = hasV xs m by simp [hasV, hv])
    have e2 := Lib.hid (show 1 = hasE xs m by simp [hasE, hv])
    have VX := Lib.hid hv
    clear hv
    go_enter Try.func26, Try.ntmps26
    go_wp2_with fail
    refine (rvalid_b A C xs _ VX.out _ hl HX.out).mono ?_
    rintro e w' ⟨rfl, hb⟩
    have HB := Lib.hid hb
    clear hb
    go_wp2_with fail
    go_ret2
    exact ⟨ret_be e1.out e2.out, HB.out⟩
  | true =>
    cases hm : minu m with
    | false =>
      have e1 := Lib.hid (show false = hasV xs m by simp [hasV, hm])
      have e2 := Lib.hid (show 1 = hasE xs m by simp [hasE, hm])
      have VX := Lib.hid hv
      have KM := Lib.hid hm
      clear hv hm
      go_enter Try.func26, Try.ntmps26
      go_wp2_with fail
      refine (rvalid_b A C xs _ VX.out _ hl HX.out).mono ?_
      rintro e w' ⟨rfl, hb⟩
      have HB := Lib.hid hb
      clear hb
      go_wp2_with fail
      refine (rminute_b m _ KM.out _).mono ?_
      rintro e w' ⟨rfl, rfl⟩
      go_wp2_with fail
      go_ret2
      exact ⟨ret_be e1.out e2.out, HB.out⟩
    | true =>
      have e1 := Lib.hid (show hasS xs m = hasV xs m by simp [hasV, hv, hm])
      have e2 := Lib.hid (show 0 = hasE xs m by simp [hasE, hv, hm])
      have VX := Lib.hid hv
      have KM := Lib.hid hm
      have hl1 := (vldS_iff.1 hv).1
      clear hv hm
      go_enter Try.func26, Try.ntmps26
      go_wp2_with fail
      refine (rvalid_b A C xs _ VX.out _ hl HX.out).mono ?_
      rintro e w' ⟨rfl, hb⟩
      have HB := Lib.hid hb
      clear hb
      go_wp2_with fail
      refine (rminute_b m _ KM.out _).mono ?_
      rintro e w' ⟨rfl, rfl⟩
      go_wp2_with fail
      refine (rin_any A C xs m _ (by omega) (HX.out.below HB.out)).mono ?_
      rintro e w' ⟨rfl, rfl⟩
      go_wp2_with fail
      go_ret2
      exact ⟨ret_be e1.out e2.out, HB.out⟩
theorem hasg_any (A : Option Addr) (C : Nat) (xs : List Spn) (m : Int) (w : World) (b : Bool) (er : Int) (hb : hasV xs m = b) (her : hasE xs m = er) (hl : xs.length ≤ 9223372036854775807) (h : Ls w A C xs) :
    Calls Try.prog 25 #[.slice A xs.length C, .int .i64 m] w fun e w' => e = .returned (.tuple #[.bool b, .int .i64 er]) ∧ Below w.heap.size w w' := by
  subst hb her; exact hasf_any A C xs m w hl h
theorem rlen_any (A : Option Addr) (C : Nat) (xs : List Spn) (w : World) (n er : Int) (hn : lenN xs = n) (her : lenE xs = er) (hl : xs.length ≤ 9223372036854775807) (h : SlS w A xs) :
    Calls Try.prog 24 #[.slice A xs.length C] w fun e w' => e = .returned (.tuple #[.int .i64 n, .int .i64 er]) ∧ Below w.heap.size w w' := by
  subst hn her; exact (rlength_any A C xs w hl h).mono fun e w' ⟨he, k, hw⟩ => ⟨he, by subst hw; exact below_drewN' (Below.refl _ _) k⟩
theorem len_any (A : Option Addr) (C : Nat) (xs : List Spn) (w : World) (n er : Int) (hn : lenN xs = n) (her : lenE xs = er) (hl : xs.length ≤ 9223372036854775807) (h : SlS w A xs) :
    Calls Try.prog 23 #[.slice A xs.length C] w fun e w' => e = .returned (.tuple #[.int .i64 n, .int .i64 er]) ∧ Below w.heap.size w w' := by
  subst hn her; exact length_any A C xs w hl h

/-- What Shift gives. -/
def shL (xs : List Spn) (d : Int) : List Spn := if (shB xs d && !lv xs d) = true then shS xs d else []
def shR (xs : List Spn) (d : Int) : Int := if shB xs d = true then (if lv xs d = true then 3 else 0) else 1
theorem shift_any (A : Option Addr) (C : Nat) (xs : List Spn) (d : Int) (w : World) (zs : List Spn) (er : Int) (hz : shL xs d = zs) (her : shR xs d = er) (hl : xs.length ≤ 9223372036854775807) (h : Ls w A C xs) :
    Calls Try.prog 21 #[.slice A xs.length C, .int .i64 d] w (Gv zs er w) := by
  subst hz her
  cases hs : shB xs d with
  | false =>
    rw [show shL xs d = [] by simp [shL, hs], show shR xs d = 1 by simp [shR, hs]]
    exact (shift_bad A C xs d w hl h.sl hs).mono fun _ _ h => gv_nil h
  | true =>
    cases hv : lv xs d with
    | true =>
      rw [show shL xs d = [] by simp [shL, hv], show shR xs d = 3 by simp [shR, hs, hv]]
      exact (shift_out A C xs w d hs hv h).mono fun _ _ h => gv_nil h
    | false =>
      rw [show shL xs d = shS xs d by simp [shL, hs, hv], show shR xs d = 0 by simp [shR, hs, hv]]
      exact (shift_got A C xs w d _ rfl hs hv h).mono fun _ _ ⟨A', C', he, hl, hB⟩ => ⟨A', C', he, hl.sl, hB⟩
end Go.Proofs.Ytgdgpfpihpofdaa
