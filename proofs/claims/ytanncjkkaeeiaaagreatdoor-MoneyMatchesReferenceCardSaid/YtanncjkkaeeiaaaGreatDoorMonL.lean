/-
  Package money: readCents and Parse, for all strings of up to 200 bytes.
-/
import Derived.Test.YtanncjkkaeeiaaaGreatDoorMonI
import Derived.Test.YtanncjkkaeeiaaaGreatDoorMonK
import Derived.Deep.RegionHeld3
namespace Go.Proofs.YtanncjkkaeeiaaaGreatDoor
open Go.RowKit Go.Sort
open Go.RowKit (Below)
set_option linter.unusedVariables false

/-- What the variables hold, those of the library's that reading needs too. -/
structure St6 (w : World) : Prop where
  st : St w
  ml : ∃ m, w.cell? ⟨1, 0, none⟩ = some (.int .i64 m)
  er : ∃ te pe, w.cell? ⟨3, 0, none⟩ = some (.iface te pe)
theorem St6.below {w w' : World} {B : Nat} (h : St6 w) (hb : Below B w w') (hB : 7 ≤ B) : St6 w' where
  st := h.st.below hb hB
  ml := by obtain ⟨m, hm⟩ := h.ml; exact ⟨m, by rw [hb.cell (by simp; omega)]; exact hm⟩
  er := by obtain ⟨m, p, hm⟩ := h.er; exact ⟨m, p, by rw [hb.cell (by simp; omega)]; exact hm⟩


theorem below_bytes (w : World) (e : TypeId) (s : ByteArray) : Below w.heap.size w (Lib.bytesWorld w e s) :=
  ⟨rfl, rfl, rfl, by rw [Lib.bytesWorld_size]; omega, fun k hk => Lib.bytesWorld_at_old w e s k hk⟩
theorem drewN_size (w : World) (k : Nat) : (w.drewN k).heap.size = w.heap.size := rfl
theorem bel_at {w w' : World} {k : Nat} (h : Below (w.drewN k).heap.size (w.drewN k) w') : Below w.heap.size w w' := by
  rw [drewN_size] at h
  exact (below_drewN' (Below.refl _ _) k).trans h

/-- What strings.CutPrefix at a sign gives of s, and strings.Cut at a point. -/
def Pre (s T : ByteArray) (g : Bool) : Prop := ∀ W : World, Calls Tryz.prog 33 #[.string s, .string ⟨#[45]⟩] W fun e w' => e = .returned (.tuple #[.string T, .bool g]) ∧ w' = W
def CutPt (T X Y : ByteArray) (dv : Bool) : Prop := ∀ W : World, (∃ m, W.cell? ⟨1, 0, none⟩ = some (.int .i64 m)) →
  Calls Tryz.prog 49 #[.string T, .string ⟨#[46]⟩] W fun e w' => e = .returned (.tuple #[.string X, .string Y, .bool dv]) ∧ ∃ n, w' = W.drewN n

set_option maxRecDepth 100000 in
set_option maxHeartbeats 400000 in
theorem rc_a (s T X Y : ByteArray) (g dv : Bool) (w : World) (hs : St6 w) (hcp : Pre s T g) (hct : CutPt T X Y dv) (zx : X.size ≤ 400) (zy : Y.size ≤ 400) (h1 : numl X.data.toList = false) :
    Calls Tryz.prog 34 #[.string s] w fun e w' => e = .returned (.tuple #[.int .i64 0, .int .i64 8]) ∧ Below w.heap.size w w' := by
  have HS := Lib.hid hs; have HP := Lib.hid hcp; have HT := Lib.hid hct; clear hs hcp hct
  go_enter Tryz.func34, Tryz.ntmps34
  go_wp2_with fail
  refine (HP.out _).mono ?_
  rintro e w' ⟨rfl, hw'⟩
  subst w'
  go_wp2_with fail
  refine (HT.out _ HS.out.ml).mono ?_
  rintro e w1 ⟨rfl, k, rfl⟩
  go_wp2_with (first
    | (go_at_call 50; refine (isNumeral_b _ false h1 _ (by omega)).mono ?_; rintro e w' ⟨rfl, rfl⟩))
  go_ret2
  exact ⟨rfl, below_drewN' (Below.refl _ _) k⟩

set_option maxRecDepth 100000 in
set_option maxHeartbeats 400000 in
theorem rc_b (s T X Y : ByteArray) (g dv : Bool) (w : World) (hs : St6 w) (hcp : Pre s T g) (hct : CutPt T X Y dv) (zx : X.size ≤ 400) (zy : Y.size ≤ 400) (h1 : numl X.data.toList = true) (h2 : ((Y.size : Int) != 2) = true) :
    Calls Tryz.prog 34 #[.string s] w fun e w' => e = .returned (.tuple #[.int .i64 0, .int .i64 8]) ∧ Below w.heap.size w w' := by
  have HS := Lib.hid hs; have HP := Lib.hid hcp; have HT := Lib.hid hct; clear hs hcp hct
  go_enter Tryz.func34, Tryz.ntmps34
  go_wp2_with fail
  refine (HP.out _).mono ?_
  rintro e w' ⟨rfl, hw'⟩
  subst w'
  go_wp2_with fail
  refine (HT.out _ HS.out.ml).mono ?_
  rintro e w1 ⟨rfl, k, rfl⟩
  go_wp2_with (first
    | (go_at_call 50; refine (isNumeral_b _ true h1 _ (by omega)).mono ?_; rintro e w' ⟨rfl, rfl⟩))
  go_ret2
  exact ⟨rfl, below_drewN' (Below.refl _ _) k⟩

set_option maxRecDepth 100000 in
set_option maxHeartbeats 400000 in
theorem rc_c (s T X Y : ByteArray) (g dv : Bool) (w : World) (hs : St6 w) (hcp : Pre s T g) (hct : CutPt T X Y dv) (zx : X.size ≤ 400) (zy : Y.size ≤ 400) (h1 : numl X.data.toList = true) (h2 : ((Y.size : Int) != 2) = false) (h3 : digl Y.data.toList = false) :
    Calls Tryz.prog 34 #[.string s] w fun e w' => e = .returned (.tuple #[.int .i64 0, .int .i64 8]) ∧ Below w.heap.size w w' := by
  have HS := Lib.hid hs; have HP := Lib.hid hcp; have HT := Lib.hid hct; clear hs hcp hct
  go_enter Tryz.func34, Tryz.ntmps34
  go_wp2_with fail
  refine (HP.out _).mono ?_
  rintro e w' ⟨rfl, hw'⟩
  subst w'
  go_wp2_with fail
  refine (HT.out _ HS.out.ml).mono ?_
  rintro e w1 ⟨rfl, k, rfl⟩
  go_wp2_with (first
    | (go_at_call 50; refine (isNumeral_b _ true h1 _ (by omega)).mono ?_; rintro e w' ⟨rfl, rfl⟩)
    | (go_at_call 51; refine (areDigits_b _ false h3 _ (by omega)).mono ?_; rintro e w' ⟨rfl, rfl⟩))
  go_ret2
  exact ⟨rfl, below_drewN' (Below.refl _ _) k⟩

set_option maxRecDepth 100000 in
set_option maxHeartbeats 400000 in
theorem rc_d (s T X Y : ByteArray) (g dv : Bool) (w : World) (hs : St6 w) (hcp : Pre s T g) (hct : CutPt T X Y dv) (zx : X.size ≤ 400) (zy : Y.size ≤ 400) (h1 : numl X.data.toList = true) (h2 : ((Y.size : Int) != 2) = false) (h3 : digl Y.data.toList = true) (h4 : (s.toList == [45, 48, 46, 48, 48]) = true) :
    Calls Tryz.prog 34 #[.string s] w fun e w' => e = .returned (.tuple #[.int .i64 0, .int .i64 8]) ∧ Below w.heap.size w w' := by
  have HS := Lib.hid hs; have HP := Lib.hid hcp; have HT := Lib.hid hct; clear hs hcp hct
  go_enter Tryz.func34, Tryz.ntmps34
  go_wp2_with fail
  refine (HP.out _).mono ?_
  rintro e w' ⟨rfl, hw'⟩
  subst w'
  go_wp2_with fail
  refine (HT.out _ HS.out.ml).mono ?_
  rintro e w1 ⟨rfl, k, rfl⟩
  go_wp2_with (first
    | (go_at_call 50; refine (isNumeral_b _ true h1 _ (by omega)).mono ?_; rintro e w' ⟨rfl, rfl⟩)
    | (go_at_call 51; refine (areDigits_b _ true h3 _ (by omega)).mono ?_; rintro e w' ⟨rfl, rfl⟩))
  go_ret2
  exact ⟨rfl, below_drewN' (Below.refl _ _) k⟩

set_option maxRecDepth 100000 in
set_option maxHeartbeats 400000 in
theorem rc_big (s T X Y : ByteArray) (g dv : Bool) (w : World) (hs : St6 w) (hcp : Pre s T g) (hct : CutPt T X Y dv) (zx : X.size ≤ 400) (zy : Y.size ≤ 400) (h1 : numl X.data.toList = true) (h2 : ((Y.size : Int) != 2) = false) (h3 : digl Y.data.toList = true) (h4 : (s.toList == [45, 48, 46, 48, 48]) = false) (h5 : Lib.atoiAll (X ++ Y).data.toList = .range) :
    Calls Tryz.prog 34 #[.string s] w fun e w' => e = .returned (.tuple #[.int .i64 0, .int .i64 3]) ∧ Below w.heap.size w w' := by
  have H5 := Lib.hid h5; clear h5
  have HS := Lib.hid hs; have HP := Lib.hid hcp; have HT := Lib.hid hct; clear hs hcp hct
  have c1 : ∀ w, (Op.stringOp .add X Y).run Tryz.prog w = .ok (.string (X ++ Y)) w := fun w => add_run _ _ (by omega) w
  have hxy : (X ++ Y).size ≤ 800 := by rw [ByteArray.size_append]; omega
  have HXY := Lib.hid hxy
  clear hxy
  go_enter Tryz.func34, Tryz.ntmps34
  go_wp2_with fail
  refine (HP.out _).mono ?_
  rintro e w' ⟨rfl, hw'⟩
  subst w'
  go_wp2_with fail
  refine (HT.out _ HS.out.ml).mono ?_
  rintro e w1 ⟨rfl, k, rfl⟩
  go_wp2_with (first
    | (go_at_call 50; refine (isNumeral_b _ true h1 _ (by omega)).mono ?_; rintro e w' ⟨rfl, rfl⟩)
    | (go_at_call 51; refine (areDigits_b _ true h3 _ (by omega)).mono ?_; rintro e w' ⟨rfl, rfl⟩))
  obtain ⟨te, pe, hev⟩ := HS.out.er
  refine (Tryz.strconv_Atoi_range (X ++ Y) (by have := HXY.out; omega) H5.out _ (w.drewN k) hev (.inr ⟨_, _, rfl⟩)).mono ?_
  rintro e w1 ⟨N, rfl, -, -, hb⟩
  go_wp2
  go_ret2
  exact ⟨rfl, bel_at hb⟩

set_option maxRecDepth 100000 in
set_option maxHeartbeats 400000 in
theorem rc_pos (s T X Y : ByteArray) (dv : Bool) (w : World) (hs : St6 w) (hcp : Pre s T false) (hct : CutPt T X Y dv) (zx : X.size ≤ 400) (zy : Y.size ≤ 400) (h1 : numl X.data.toList = true) (h2 : ((Y.size : Int) != 2) = false) (h3 : digl Y.data.toList = true) (h4 : (s.toList == [45, 48, 46, 48, 48]) = false) (v : Int) (hv1 : 0 ≤ v) (hv2 : v ≤ 9223372036854775807) (h5 : Lib.atoiAll (X ++ Y).data.toList = .ok v) :
    Calls Tryz.prog 34 #[.string s] w fun e w' => e = .returned (.tuple #[.int .i64 (rsN v), .int .i64 (rsE v)]) ∧ Below w.heap.size w w' := by
  have H5 := Lib.hid h5; clear h5
  have HS := Lib.hid hs; have HP := Lib.hid hcp; have HT := Lib.hid hct; clear hs hcp hct
  have c1 : ∀ w, (Op.stringOp .add X Y).run Tryz.prog w = .ok (.string (X ++ Y)) w := fun w => add_run _ _ (by omega) w
  have hxy : (X ++ Y).size ≤ 800 := by rw [ByteArray.size_append]; omega
  have HXY := Lib.hid hxy
  clear hxy
  go_enter Tryz.func34, Tryz.ntmps34
  go_wp2_with fail
  refine (HP.out _).mono ?_
  rintro e w' ⟨rfl, hw'⟩
  subst w'
  go_wp2_with fail
  refine (HT.out _ HS.out.ml).mono ?_
  rintro e w1 ⟨rfl, k, rfl⟩
  go_wp2_with (first
    | (go_at_call 50; refine (isNumeral_b _ true h1 _ (by omega)).mono ?_; rintro e w' ⟨rfl, rfl⟩)
    | (go_at_call 51; refine (areDigits_b _ true h3 _ (by omega)).mono ?_; rintro e w' ⟨rfl, rfl⟩))
  refine (Tryz.strconv_Atoi_ok (X ++ Y) (by have := HXY.out; omega) v H5.out (w.drewN k)).mono ?_
  rintro e w1 ⟨rfl, hw⟩
  have hb : Below (w.drewN k).heap.size (w.drewN k) w1 := by
    generalize w.drewN k = wq at hw ⊢
    rcases hw with rfl | ⟨t, rfl⟩
    · exact Below.refl _ _
    · exact below_bytes _ _ _
  clear hw
  go_wp2_with (go_at_call 20; refine (result_any _ _).mono ?_; rintro e w' ⟨rfl, rfl⟩)
  go_ret2
  exact ⟨rfl, bel_at hb⟩

set_option maxRecDepth 100000 in
set_option maxHeartbeats 400000 in
theorem rc_neg (s T X Y : ByteArray) (dv : Bool) (w : World) (hs : St6 w) (hcp : Pre s T true) (hct : CutPt T X Y dv) (zx : X.size ≤ 400) (zy : Y.size ≤ 400) (h1 : numl X.data.toList = true) (h2 : ((Y.size : Int) != 2) = false) (h3 : digl Y.data.toList = true) (h4 : (s.toList == [45, 48, 46, 48, 48]) = false) (v : Int) (hv1 : 0 ≤ v) (hv2 : v ≤ 9223372036854775807) (h5 : Lib.atoiAll (X ++ Y).data.toList = .ok v) :
    Calls Tryz.prog 34 #[.string s] w fun e w' => e = .returned (.tuple #[.int .i64 (rsN (-v)), .int .i64 (rsE (-v))]) ∧ Below w.heap.size w w' := by
  have H5 := Lib.hid h5; clear h5
  have HS := Lib.hid hs; have HP := Lib.hid hcp; have HT := Lib.hid hct; clear hs hcp hct
  have c1 : ∀ w, (Op.stringOp .add X Y).run Tryz.prog w = .ok (.string (X ++ Y)) w := fun w => add_run _ _ (by omega) w
  have hxy : (X ++ Y).size ≤ 800 := by rw [ByteArray.size_append]; omega
  have HXY := Lib.hid hxy
  clear hxy
  go_enter Tryz.func34, Tryz.ntmps34
  go_wp2_with fail
  refine (HP.out _).mono ?_
  rintro e w' ⟨rfl, hw'⟩
  subst w'
  go_wp2_with fail
  refine (HT.out _ HS.out.ml).mono ?_
  rintro e w1 ⟨rfl, k, rfl⟩
  go_wp2_with (first
    | (go_at_call 50; refine (isNumeral_b _ true h1 _ (by omega)).mono ?_; rintro e w' ⟨rfl, rfl⟩)
    | (go_at_call 51; refine (areDigits_b _ true h3 _ (by omega)).mono ?_; rintro e w' ⟨rfl, rfl⟩))
  refine (Tryz.strconv_Atoi_ok (X ++ Y) (by have := HXY.out; omega) v H5.out (w.drewN k)).mono ?_
  rintro e w1 ⟨rfl, hw⟩
  have hb : Below (w.drewN k).heap.size (w.drewN k) w1 := by
    generalize w.drewN k = wq at hw ⊢
    rcases hw with rfl | ⟨t, rfl⟩
    · exact Below.refl _ _
    · exact below_bytes _ _ _
  clear hw
  go_wp2_with (go_at_call 20; refine (result_any _ _).mono ?_; rintro e w' ⟨rfl, rfl⟩)
  go_ret2
  exact ⟨rfl, bel_at hb⟩

/-- What readCents returns. -/
def rcE (l : List UInt8) : Int := if fm l = true then rsE (sv l) else 8
def rcN (l : List UInt8) : Int := if fm l = true then rsN (sv l) else 0

theorem rs_big {x : Int} (h : x < -1000000000 ∨ 1000000000 < x) : rsN x = 0 ∧ rsE x = 3 := by
  have : ¬ am x = true := by rw [am_iff]; omega
  exact ⟨by rw [rsN, if_neg this], by rw [rsE, if_neg this]⟩

theorem readCents_any (s : ByteArray) (hl : s.size ≤ 200) (w : World) (hs : St6 w) :
    Calls Tryz.prog 34 #[.string s] w fun e w' => e = .returned (.tuple #[.int .i64 (rcN s.data.toList), .int .i64 (rcE s.data.toList)]) ∧ Below w.heap.size w w' := by
  have hcp : Pre s ⟨(tl s.data.toList).toArray⟩ (ng s.data.toList) := fun W => Tryz.strings_CutPrefix s ⟨#[45]⟩ W
  have zt : (tl s.data.toList).length ≤ 200 := by have := Lib.trimPrefix_le s.data.toList [45]; rw [len_data] at this; exact Nat.le_trans this hl
  have hct : CutPt ⟨(tl s.data.toList).toArray⟩ ⟨(wh s.data.toList).toArray⟩ ⟨(hu s.data.toList).toArray⟩ (Lib.cut (tl s.data.toList) [46]).2.2 := fun W ⟨m, hm⟩ => Tryz.strings_Cut ⟨(tl s.data.toList).toArray⟩ ⟨#[46]⟩ m W (by rw [size_list]; omega) hm
  have zz := cut_xlen 46 (tl s.data.toList)
  have zx : (⟨(wh s.data.toList).toArray⟩ : ByteArray).size ≤ 400 := by rw [size_list]; exact Nat.le_trans zz.1 (by omega)
  have zy : (⟨(hu s.data.toList).toArray⟩ : ByteArray).size ≤ 400 := by rw [size_list]; exact Nat.le_trans zz.2 (by omega)
  have e5 : (s.toList == [45, 48, 46, 48, 48]) = (s.data.toList == [45, 48, 46, 48, 48]) := by rw [ByteArray.toList_eq]
  cases hf : fm s.data.toList with
  | false =>
    rw [rcN, if_neg (by simp [hf]), rcE, if_neg (by simp [hf])]
    cases h1 : numl (wh s.data.toList) with
    | false => exact rc_a s _ _ _ _ _ w hs hcp hct zx zy (by simpa using h1)
    | true =>
      by_cases h2 : (hu s.data.toList).length = 2
      · have h2' : (((⟨(hu s.data.toList).toArray⟩ : ByteArray).size : Int) != 2) = false := by rw [size_list, bne_eq_false_iff_eq]; omega
        cases h3 : digl (hu s.data.toList) with
        | false => exact rc_c s _ _ _ _ _ w hs hcp hct zx zy (by simpa using h1) h2' (by simpa using h3)
        | true =>
          have h4 : s.data.toList = [45, 48, 46, 48, 48] := by
            apply Classical.byContradiction
            intro h4
            rw [fm_iff.2 ⟨h1, h2, h3, h4⟩] at hf
            cases hf
          exact rc_d s _ _ _ _ _ w hs hcp hct zx zy (by simpa using h1) h2' (by simpa using h3) (by rw [e5, h4]; rfl)
      · have h2' : (((⟨(hu s.data.toList).toArray⟩ : ByteArray).size : Int) != 2) = true := by rw [size_list, bne_iff_ne]; omega
        exact rc_b s _ _ _ _ _ w hs hcp hct zx zy (by simpa using h1) h2'
  | true =>
    rw [rcN, if_pos hf, rcE, if_pos hf]
    obtain ⟨h1, h2, h3, h4⟩ := fm_iff.1 hf
    have h2' : (((⟨(hu s.data.toList).toArray⟩ : ByteArray).size : Int) != 2) = false := by rw [size_list, bne_eq_false_iff_eq]; omega
    have h4' : (s.toList == [45, 48, 46, 48, 48]) = false := by rw [e5, beq_eq_false_iff_ne]; exact h4
    have hxy : ((⟨(wh s.data.toList).toArray⟩ : ByteArray) ++ ⟨(hu s.data.toList).toArray⟩).data.toList = wh s.data.toList ++ hu s.data.toList := by simp [ByteArray.data_append]
    have ha := atoi_vl hf
    rw [← hxy] at ha
    by_cases hb : vl s.data.toList < 9223372036854775808
    · rw [if_pos hb] at ha
      cases hn : ng s.data.toList with
      | true =>
        rw [hn] at hcp
        rw [sv, if_pos hn]
        exact rc_neg s _ _ _ _ w hs hcp hct zx zy (by simpa using h1) h2' (by simpa using h3) h4' _ (by omega) (by omega) ha
      | false =>
        rw [hn] at hcp
        rw [sv, if_neg (by simp [hn])]
        exact rc_pos s _ _ _ _ w hs hcp hct zx zy (by simpa using h1) h2' (by simpa using h3) h4' _ (by omega) (by omega) ha
    · rw [if_neg hb] at ha
      have hbig : sv s.data.toList < -1000000000 ∨ 1000000000 < sv s.data.toList := by unfold sv; split <;> omega
      rw [(rs_big hbig).1, (rs_big hbig).2]
      exact rc_big s _ _ _ _ _ w hs hcp hct zx zy (by simpa using h1) h2' (by simpa using h3) h4' ha

/-- What Parse returns. -/
def chp (l : List UInt8) : Bool := Lib.hasPrefix l [67, 72, 70, 32]
def eup (l : List UInt8) : Bool := Lib.hasPrefix l [69, 85, 82, 32]
def pE (l : List UInt8) : Int := if (chp l || eup l) = true then rcE (l.drop 4) else 8
def pN (l : List UInt8) : Int := if (chp l || eup l) = true then rcN (l.drop 4) else 0
def pK (l : List UInt8) : Int := if eup l = true ∧ rcE (l.drop 4) = 0 then 1 else 0
theorem rc_err {l : List UInt8} (h : rcE l ≠ 0) : rcN l = 0 := by
  unfold rcN
  unfold rcE at h
  split
  · rename_i hf
    rw [if_pos hf] at h
    unfold rsN
    unfold rsE at h
    split
    · rename_i ha; rw [if_pos ha] at h; exact absurd rfl h
    · rfl
  · rfl
theorem ret_three {k k' k'' : IntKind} {a b c d x y : Int} (h : a = b) (h' : c = d) (h'' : x = y) : Ending.returned (.tuple #[.int k a, .int k' c, .int k'' x]) = .returned (.tuple #[.int k b, .int k' d, .int k'' y]) := by rw [h, h', h'']
theorem pre_not {l : List UInt8} (h : chp l = true) : eup l = false := by
  unfold chp at h
  unfold eup
  unfold Lib.hasPrefix at *
  cases l with
  | nil => rfl
  | cons a b =>
    simp only [List.isPrefixOf, Bool.and_eq_true, beq_iff_eq] at h ⊢
    obtain ⟨rfl, _⟩ := h
    rfl
abbrev chs : ByteArray := ⟨#[67, 72, 70, 32]⟩
abbrev eus : ByteArray := ⟨#[69, 85, 82, 32]⟩
/-- What strings.CutPrefix at p gives of s. -/
def PreP (s p T : ByteArray) (g : Bool) : Prop := ∀ W : World, Calls Tryz.prog 33 #[.string s, .string p] W fun e w' => e = .returned (.tuple #[.string T, .bool g]) ∧ w' = W
def Rcs (T : ByteArray) (n e : Int) : Prop := ∀ W : World, St6 W → Calls Tryz.prog 34 #[.string T] W fun x w' => x = .returned (.tuple #[.int .i64 n, .int .i64 e]) ∧ Below W.heap.size W w'

set_option maxRecDepth 100000 in
set_option maxHeartbeats 400000 in
theorem parse_ch0 (s T : ByteArray) (w : World) (hs : St6 w) (n : Int) (hp : PreP s chs T true) (hr : Rcs T n 0) :
    Calls Tryz.prog 17 #[.string s] w fun e w' => e = .returned (.tuple #[.int .i64 n, .int .i64 0, .int .i64 0]) ∧ Below w.heap.size w w' := by
  have HS := Lib.hid hs; clear hs
  have n0 := HS.out.st.n0
  have n1 := HS.out.st.n1
  have c0 : ∀ w, (Op.stringOp .add chf ⟨#[32]⟩).run Tryz.prog w = .ok (.string chs) w := fun w => add_run _ _ (by decide) w
  have c1 : ∀ w, (Op.stringOp .add eur ⟨#[32]⟩).run Tryz.prog w = .ok (.string eus) w := fun w => add_run _ _ (by decide) w
  have HP := Lib.hid hp; clear hp
  have HR := Lib.hid hr; clear hr
  go_enter Tryz.func17, Tryz.ntmps17
  go_wp2
  go_loop [10] (fun i => i = .int .i64 0) (fun i => 2 - (intOf i).toNat)
  case atStart => rfl
  case round =>
    subst hrel
    · go_wp2_with fail
      refine (HP.out _).mono ?_
      rintro e w' ⟨rfl, rfl⟩
      go_wp2_with fail
      refine (HR.out _ HS.out).mono ?_
      rintro e w1 ⟨rfl, hb⟩
      go_wp2
      go_ret3
      exact ⟨rfl, hb⟩

set_option maxRecDepth 100000 in
set_option maxHeartbeats 400000 in
theorem parse_chE (s T : ByteArray) (w : World) (hs : St6 w) (n x : Int) (hx : (x != 0) = true) (hp : PreP s chs T true) (hr : Rcs T n x) :
    Calls Tryz.prog 17 #[.string s] w fun e w' => e = .returned (.tuple #[.int .i64 0, .int .i64 0, .int .i64 x]) ∧ Below w.heap.size w w' := by
  have HS := Lib.hid hs; clear hs
  have n0 := HS.out.st.n0
  have n1 := HS.out.st.n1
  have c0 : ∀ w, (Op.stringOp .add chf ⟨#[32]⟩).run Tryz.prog w = .ok (.string chs) w := fun w => add_run _ _ (by decide) w
  have c1 : ∀ w, (Op.stringOp .add eur ⟨#[32]⟩).run Tryz.prog w = .ok (.string eus) w := fun w => add_run _ _ (by decide) w
  have HP := Lib.hid hp; clear hp
  have HR := Lib.hid hr; clear hr
  go_enter Tryz.func17, Tryz.ntmps17
  go_wp2
  go_loop [10] (fun i => i = .int .i64 0) (fun i => 2 - (intOf i).toNat)
  case atStart => rfl
  case round =>
    subst hrel
    · go_wp2_with fail
      refine (HP.out _).mono ?_
      rintro e w' ⟨rfl, rfl⟩
      go_wp2_with fail
      refine (HR.out _ HS.out).mono ?_
      rintro e w1 ⟨rfl, hb⟩
      go_wp2
      go_ret3
      exact ⟨rfl, hb⟩

set_option maxRecDepth 100000 in
set_option maxHeartbeats 400000 in
theorem parse_eu0 (s T : ByteArray) (w : World) (hs : St6 w) (Q : ByteArray) (n : Int) (hq : PreP s chs Q false) (hp : PreP s eus T true) (hr : Rcs T n 0) :
    Calls Tryz.prog 17 #[.string s] w fun e w' => e = .returned (.tuple #[.int .i64 n, .int .i64 1, .int .i64 0]) ∧ Below w.heap.size w w' := by
  have HS := Lib.hid hs; clear hs
  have n0 := HS.out.st.n0
  have n1 := HS.out.st.n1
  have c0 : ∀ w, (Op.stringOp .add chf ⟨#[32]⟩).run Tryz.prog w = .ok (.string chs) w := fun w => add_run _ _ (by decide) w
  have c1 : ∀ w, (Op.stringOp .add eur ⟨#[32]⟩).run Tryz.prog w = .ok (.string eus) w := fun w => add_run _ _ (by decide) w
  have HP := Lib.hid hp; clear hp
  have HR := Lib.hid hr; clear hr
  have HQ := Lib.hid hq; clear hq
  go_enter Tryz.func17, Tryz.ntmps17
  go_wp2
  go_loop [10] (fun i => i = .int .i64 0 ∨ i = .int .i64 1) (fun i => 2 - (intOf i).toNat)
  case atStart => exact .inl rfl
  case round =>
    rcases hrel with rfl | rfl
    · go_wp2_with fail
      refine (HQ.out _).mono ?_
      rintro e w' ⟨rfl, rfl⟩
      go_wp2
      go_round
      case rel => exact .inr (by go_num)
      case measure => simp [intOf]
    · go_wp2_with fail
      refine (HP.out _).mono ?_
      rintro e w' ⟨rfl, rfl⟩
      go_wp2_with fail
      refine (HR.out _ HS.out).mono ?_
      rintro e w1 ⟨rfl, hb⟩
      go_wp2
      go_ret3
      exact ⟨rfl, hb⟩

set_option maxRecDepth 100000 in
set_option maxHeartbeats 400000 in
theorem parse_euE (s T : ByteArray) (w : World) (hs : St6 w) (Q : ByteArray) (n x : Int) (hx : (x != 0) = true) (hq : PreP s chs Q false) (hp : PreP s eus T true) (hr : Rcs T n x) :
    Calls Tryz.prog 17 #[.string s] w fun e w' => e = .returned (.tuple #[.int .i64 0, .int .i64 0, .int .i64 x]) ∧ Below w.heap.size w w' := by
  have HS := Lib.hid hs; clear hs
  have n0 := HS.out.st.n0
  have n1 := HS.out.st.n1
  have c0 : ∀ w, (Op.stringOp .add chf ⟨#[32]⟩).run Tryz.prog w = .ok (.string chs) w := fun w => add_run _ _ (by decide) w
  have c1 : ∀ w, (Op.stringOp .add eur ⟨#[32]⟩).run Tryz.prog w = .ok (.string eus) w := fun w => add_run _ _ (by decide) w
  have HP := Lib.hid hp; clear hp
  have HR := Lib.hid hr; clear hr
  have HQ := Lib.hid hq; clear hq
  go_enter Tryz.func17, Tryz.ntmps17
  go_wp2
  go_loop [10] (fun i => i = .int .i64 0 ∨ i = .int .i64 1) (fun i => 2 - (intOf i).toNat)
  case atStart => exact .inl rfl
  case round =>
    rcases hrel with rfl | rfl
    · go_wp2_with fail
      refine (HQ.out _).mono ?_
      rintro e w' ⟨rfl, rfl⟩
      go_wp2
      go_round
      case rel => exact .inr (by go_num)
      case measure => simp [intOf]
    · go_wp2_with fail
      refine (HP.out _).mono ?_
      rintro e w' ⟨rfl, rfl⟩
      go_wp2_with fail
      refine (HR.out _ HS.out).mono ?_
      rintro e w1 ⟨rfl, hb⟩
      go_wp2
      go_ret3
      exact ⟨rfl, hb⟩

set_option maxRecDepth 100000 in
set_option maxHeartbeats 400000 in
theorem parse_no (s T : ByteArray) (w : World) (hs : St6 w) (Q : ByteArray) (hq : PreP s chs Q false) (hp : PreP s eus T false) :
    Calls Tryz.prog 17 #[.string s] w fun e w' => e = .returned (.tuple #[.int .i64 0, .int .i64 0, .int .i64 8]) ∧ Below w.heap.size w w' := by
  have HS := Lib.hid hs; clear hs
  have n0 := HS.out.st.n0
  have n1 := HS.out.st.n1
  have c0 : ∀ w, (Op.stringOp .add chf ⟨#[32]⟩).run Tryz.prog w = .ok (.string chs) w := fun w => add_run _ _ (by decide) w
  have c1 : ∀ w, (Op.stringOp .add eur ⟨#[32]⟩).run Tryz.prog w = .ok (.string eus) w := fun w => add_run _ _ (by decide) w
  have HP := Lib.hid hp; clear hp
  have HQ := Lib.hid hq; clear hq
  go_enter Tryz.func17, Tryz.ntmps17
  go_wp2
  go_loop [10] (fun i => i = .int .i64 0 ∨ i = .int .i64 1 ∨ i = .int .i64 2) (fun i => 2 - (intOf i).toNat)
  case atStart => exact .inl rfl
  case round =>
    rcases hrel with rfl | rfl | rfl
    · go_wp2_with fail
      refine (HQ.out _).mono ?_
      rintro e w' ⟨rfl, rfl⟩
      go_wp2
      go_round
      case rel => exact .inr (.inl (by go_num))
      case measure => simp [intOf]
    · go_wp2_with fail
      refine (HP.out _).mono ?_
      rintro e w' ⟨rfl, rfl⟩
      go_wp2
      go_round
      case rel => exact .inr (.inr (by go_num))
      case measure => simp [intOf]
    · go_wp2
      go_ret3
      exact ⟨rfl, Below.refl _ _⟩

theorem parse_any (s : ByteArray) (hl : s.size ≤ 200) (w : World) (hs : St6 w) :
    Calls Tryz.prog 17 #[.string s] w fun e w' => e = .returned (.tuple #[.int .i64 (pN s.data.toList), .int .i64 (pK s.data.toList), .int .i64 (pE s.data.toList)]) ∧ Below w.heap.size w w' := by
  have hq : PreP s chs ⟨(Lib.trimPrefix s.data.toList [67, 72, 70, 32]).toArray⟩ (chp s.data.toList) := fun W => Tryz.strings_CutPrefix s chs W
  have hp : PreP s eus ⟨(Lib.trimPrefix s.data.toList [69, 85, 82, 32]).toArray⟩ (eup s.data.toList) := fun W => Tryz.strings_CutPrefix s eus W
  have hz : (⟨(s.data.toList.drop 4).toArray⟩ : ByteArray).size ≤ 200 := by rw [size_list, List.length_drop, len_data]; omega
  have hr : Rcs ⟨(s.data.toList.drop 4).toArray⟩ (rcN (s.data.toList.drop 4)) (rcE (s.data.toList.drop 4)) := fun W h => by simpa using readCents_any ⟨(s.data.toList.drop 4).toArray⟩ hz W h
  have hE : rcE (s.data.toList.drop 4) ≠ 0 → rcN (s.data.toList.drop 4) = 0 := rc_err
  have t1 : chp s.data.toList = true → Lib.trimPrefix s.data.toList [67, 72, 70, 32] = s.data.toList.drop 4 := fun h => if_pos h
  have t2 : eup s.data.toList = true → Lib.trimPrefix s.data.toList [69, 85, 82, 32] = s.data.toList.drop 4 := fun h => if_pos h
  have eN : (chp s.data.toList || eup s.data.toList) = true → pN s.data.toList = rcN (s.data.toList.drop 4) := fun h => if_pos h
  have eE : (chp s.data.toList || eup s.data.toList) = true → pE s.data.toList = rcE (s.data.toList.drop 4) := fun h => if_pos h
  have fN : ¬ (chp s.data.toList || eup s.data.toList) = true → pN s.data.toList = 0 := fun h => if_neg h
  have fE : ¬ (chp s.data.toList || eup s.data.toList) = true → pE s.data.toList = 8 := fun h => if_neg h
  have eK : (eup s.data.toList = true ∧ rcE (s.data.toList.drop 4) = 0) → pK s.data.toList = 1 := fun h => if_pos h
  have fK : ¬ (eup s.data.toList = true ∧ rcE (s.data.toList.drop 4) = 0) → pK s.data.toList = 0 := fun h => if_neg h
  cases hc : chp s.data.toList with
  | true =>
    have he := pre_not hc
    rw [hc, t1 hc] at hq
    rw [eN (by simp [hc]), eE (by simp [hc]), fK (by simp [he])]
    clear t1 t2 eN eE fN fE eK fK
    generalize rcE (s.data.toList.drop 4) = x at *
    generalize rcN (s.data.toList.drop 4) = n at *
    by_cases h0 : x = 0
    · subst h0; exact parse_ch0 s _ w hs n hq hr
    · rw [show n = 0 from hE h0]
      exact parse_chE s _ w hs n x (by rw [bne_iff_ne]; exact h0) hq hr
  | false =>
    rw [hc] at hq
    cases he : eup s.data.toList with
    | true =>
      rw [he, t2 he] at hp
      rw [eN (by simp [he]), eE (by simp [he])]
      by_cases h0 : rcE (s.data.toList.drop 4) = 0
      · rw [eK ⟨he, h0⟩, h0]
        rw [h0] at hr
        exact parse_eu0 s _ w hs _ _ hq hp hr
      · rw [fK (fun h => h0 h.2), hE h0]
        exact parse_euE s _ w hs _ _ _ (by rw [bne_iff_ne]; exact h0) hq hp hr
    | false =>
      rw [he] at hp
      rw [fN (by simp [hc, he]), fE (by simp [hc, he]), fK (by simp [he])]
      exact parse_no s _ w hs _ hq hp
end Go.Proofs.YtanncjkkaeeiaaaGreatDoor
