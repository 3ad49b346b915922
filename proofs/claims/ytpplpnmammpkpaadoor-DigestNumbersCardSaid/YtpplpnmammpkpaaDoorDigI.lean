/-
  Package digest: Check.
-/
import Derived.Test.YtpplpnmammpkpaaDoorDigH
namespace Go.Proofs.YtpplpnmammpkpaaDoor
open Go.RowKit Go.Sort
open Go.RowKit (Below)
set_option linter.unusedVariables false

/-- Is a path accepted? -/
def chkB (root leaf i n : Int) (path : List Int) : Bool := if n ≤ 1024 ∧ 0 ≤ i ∧ i < n then chkW root (leafN leaf) i.toNat n.toNat path else false
theorem chk_end {ps : List Int} {way root : Int} {b : Bool} (h : (ps.isEmpty && way == root) = b) (p : ps.length = 0) : (way == root) = b := by
  rw [List.eq_nil_of_length_eq_zero p] at h
  simpa using h

theorem drop1 {k : IntKind} {w : World} {b o : Nat} {p : Int} {ps : List Int} {C : Nat} (h : Sk k w (some ⟨b, o, none⟩) (p :: ps)) (hC : (p :: ps).length ≤ C) : Sk k w (if C = 1 then some ⟨b, o, none⟩ else some ⟨b, o + 1, none⟩) ps := by
  intro j hj
  have hl : (p :: ps).length = ps.length + 1 := rfl
  rw [if_neg (by omega)]
  have := sk_here h (j := j + 1) (by omega)
  rw [gd_cons] at this
  exact ⟨b, o + 1, rfl, by rw [show o + 1 + j = o + (j + 1) by omega]; exact this⟩

set_option maxRecDepth 100000 in
set_option maxHeartbeats 2000000 in
theorem check_ok (root leaf : Int) (i n : Nat) (A : Option Addr) (C : Nat) (path : List Int) (w : World) (b : Bool) (hR : chkW root (leafN leaf) i n path = b) (hlf : U64 leaf) (hn : n ≤ 1024) (hi : i < n) (hl : path.length ≤ 9223372036854775807) (hC : path.length ≤ C) (hu : ∀ x ∈ path, U64 x) (h : Sk .u64 w A path) :
    Calls Tryd.prog 20 #[.int .u64 root, .int .u64 leaf, .int .i64 i, .int .i64 n, .slice A path.length C] w fun e w' => e = .returned (.bool b) ∧ Below w.heap.size w w' := by
  have H := Lib.hid h
  have HU := Lib.hid hu
  have HR := Lib.hid hR
  have HF := Lib.hid hlf
  clear h hu hR hlf
  have h1 : decide ((i : Int) < 0) = false := by simp
  have h2 : decide ((n : Int) ≤ (i : Int)) = false := by simp; omega
  have h3 : decide (1024 < (n : Int)) = false := by simp; omega
  go_enter Tryd.func20, Tryd.ntmps20
  go_wp2_with fail
  refine (node1_any 0 leaf (some ⟨w.heap.size, 0, none⟩) 1 _ HF.out (sk_one w leaf _)).mono ?_
  rintro e w1 ⟨rfl, hb1⟩
  have hb2 : Below w.heap.size w w1 := ((Below.refl _ _).alloc (Nat.le_refl _) _).trans (hb1.mono (by simp))
  have HLf := Lib.hid (show dig (0 :: be8 leaf) = leafN leaf from rfl)
  rw [HLf.out]
  have HI1 := Lib.hid (show chkW root (leafN leaf) i n path = b ∧ i < n ∧ n ≤ 1024 ∧ U64 (leafN leaf) ∧ (∀ x ∈ path, U64 x) ∧ Sk .u64 w1 A path from ⟨HR.out, hi, hn, leafN_u _, HU.out, H.out.below hb2⟩)
  clear hb1 h1 h2 h3 hi hn H HU HR HLf
  go_wp2_with fail
  go_loopw [2, 3, 4, 11] (fun a c v u wr => ∃ (j m : Nat) (A' : Option Addr) (C' : Nat) (ps : List Int) (way : Int), a = .int .i64 j ∧ c = .int .i64 m ∧ v = .slice A' (List.length ps) C' ∧ ps.length ≤ C' ∧ ps.length ≤ 9223372036854775807 ∧ u = .int .u64 way ∧ Hid (chkW root way j m ps = b ∧ j < m ∧ m ≤ 1024 ∧ U64 way ∧ (∀ x ∈ ps, U64 x) ∧ Sk .u64 wr A' ps) ∧ Below w.heap.size w wr) (fun _ c _ _ _ => (intOf c).toNat)
  case atStart => exact ⟨i, n, A, C, path, leafN leaf, rfl, rfl, rfl, hC, hl, rfl, HI1, hb2⟩
  case round =>
    obtain ⟨j, m, A', C', ps, way, rfl, rfl, rfl, hC', hl', rfl, HI, hb⟩ := hrel
    have hm := HI.out.2.2.1
    have hj := HI.out.2.1
    clear HI1 hb2
    by_cases h1 : 1 < m
    · have hbe := bes_le j
      go_wp2_with fail
      refine (beside_any j _ (by omega)).mono ?_
      rintro e w' ⟨rfl, rfl⟩
      by_cases hx : bes j < m
      · cases ps with
        | nil =>
          have HX := Lib.hid (show false = b by
            rw [← HI.out.1]
            by_cases ho : j % 2 = 1
            · rw [chkW_odd0 _ _ _ _ h1 ho]
            · rw [chkW_even0 _ _ _ _ h1 ho (by unfold bes at hx; rw [if_neg ho] at hx; exact hx)])
          generalize bes j = y at *
          clear HI hbe
          go_wp2_with fail
          go_ret
          exact ⟨ret_bool HX.out, hb⟩
        | cons p ps =>
          obtain ⟨bb, o, rfl, hc⟩ := HI.out.2.2.2.2.2 0 (by simp)
          rw [Nat.add_zero, gd_zero] at hc
          have HP := Lib.hid (show U64 p from HI.out.2.2.2.2.1 p (by simp))
          have HW := Lib.hid HI.out.2.2.2.1
          have HD := Lib.hid (drop1 HI.out.2.2.2.2.2 hC')
          have HQ := Lib.hid (fun x (hx : x ∈ ps) => HI.out.2.2.2.2.1 x (by simp [hx]))
          have hle : (p :: ps).length = ps.length + 1 := rfl
          have hC2 : ps.length ≤ C' - 1 := by omega
          have hl2 : ps.length ≤ 9223372036854775807 := by omega
          rw [hle] at hl' hC' ⊢
          clear hle
          by_cases ho : j % 2 = 1
          · have HN := Lib.hid (show chkW root (pairN p way) (j / 2) ((m + 1) / 2) ps = b by rw [← chkW_odd _ _ _ _ _ _ h1 ho]; exact HI.out.1)
            have hlt : bes j < j := by unfold bes; rw [if_pos ho]; omega
            generalize bes j = y at *
            clear hbe HI ho
            go_wp2_with fail
            refine (node2_any 1 p way (some ⟨wr.heap.size, 0, none⟩) 2 _ HP.out HW.out (sk_two wr p way _)).mono ?_
            rintro e w3 ⟨rfl, hb3⟩
            have hb4 : Below wr.heap.size wr w3 := ((Below.refl _ _).alloc (Nat.le_refl _) _).trans (hb3.mono (by simp))
            have HLf := Lib.hid (show dig (1 :: (be8 p ++ be8 way)) = pairN p way from rfl)
            rw [HLf.out]
            have hB := on_below hb hb4
            have HM := Lib.hid (show chkW root (pairN p way) (j / 2) ((m + 1) / 2) ps = b ∧ j / 2 < (m + 1) / 2 ∧ (m + 1) / 2 ≤ 1024 ∧ U64 (pairN p way) ∧ (∀ x ∈ ps, U64 x) ∧ Sk .u64 w3 (if C' = 1 then some ⟨bb, o, none⟩ else some ⟨bb, o + 1, none⟩) ps from ⟨HN.out, by omega, by omega, pairN_u _ _, HQ.out, HD.out.below hb4⟩)
            clear hb3 hb4 HD HLf hb hc HN HQ
            go_wp2_with fail
            go_roundw
            case rel => exact ⟨j / 2, (m + 1) / 2, _, C' - 1, ps, pairN p way, by go_num, by go_num, rfl, hC2, hl2, rfl, HM, hB⟩
            case measure => simp [intOf]; omega
          · have hx2 : j + 1 < m := by unfold bes at hx; rw [if_neg ho] at hx; exact hx
            have HN := Lib.hid (show chkW root (pairN way p) (j / 2) ((m + 1) / 2) ps = b by rw [← chkW_even _ _ _ _ _ _ h1 ho hx2]; exact HI.out.1)
            have hlt : ¬ bes j < j := by unfold bes; rw [if_neg ho]; omega
            generalize bes j = y at *
            clear hbe HI ho hx2
            go_wp2_with fail
            refine (node2_any 1 way p (some ⟨wr.heap.size, 0, none⟩) 2 _ HW.out HP.out (sk_two wr way p _)).mono ?_
            rintro e w3 ⟨rfl, hb3⟩
            have hb4 : Below wr.heap.size wr w3 := ((Below.refl _ _).alloc (Nat.le_refl _) _).trans (hb3.mono (by simp))
            have HLf := Lib.hid (show dig (1 :: (be8 way ++ be8 p)) = pairN way p from rfl)
            rw [HLf.out]
            have hB := on_below hb hb4
            have HM := Lib.hid (show chkW root (pairN way p) (j / 2) ((m + 1) / 2) ps = b ∧ j / 2 < (m + 1) / 2 ∧ (m + 1) / 2 ≤ 1024 ∧ U64 (pairN way p) ∧ (∀ x ∈ ps, U64 x) ∧ Sk .u64 w3 (if C' = 1 then some ⟨bb, o, none⟩ else some ⟨bb, o + 1, none⟩) ps from ⟨HN.out, by omega, by omega, pairN_u _ _, HQ.out, HD.out.below hb4⟩)
            clear hb3 hb4 HD HLf hb hc HN HQ
            go_wp2_with fail
            go_roundw
            case rel => exact ⟨j / 2, (m + 1) / 2, _, C' - 1, ps, pairN way p, by go_num, by go_num, rfl, hC2, hl2, rfl, HM, hB⟩
            case measure => simp [intOf]; omega
      · have ho : ¬ j % 2 = 1 := by unfold bes at hx; split at hx <;> omega
        have HM := Lib.hid (show chkW root way (j / 2) ((m + 1) / 2) ps = b ∧ j / 2 < (m + 1) / 2 ∧ (m + 1) / 2 ≤ 1024 ∧ U64 way ∧ (∀ x ∈ ps, U64 x) ∧ Sk .u64 wr A' ps from ⟨by rw [← chkW_up _ _ _ _ _ h1 ho (by unfold bes at hx; rw [if_neg ho] at hx; exact hx)]; exact HI.out.1, by omega, by omega, HI.out.2.2.2.1, HI.out.2.2.2.2.1, HI.out.2.2.2.2.2⟩)
        generalize bes j = y at *
        clear hbe HI ho
        go_wp2_with fail
        go_roundw
        case rel => exact ⟨j / 2, (m + 1) / 2, A', C', ps, way, by go_num, by go_num, rfl, hC', hl', rfl, HM, hb⟩
        case measure => simp [intOf]; omega
    · have HX := Lib.hid (show (ps.isEmpty && way == root) = b by rw [← chkW_one root way j m ps h1]; exact HI.out.1)
      clear HI
      by_cases h0 : ps.length = 0
      · have HY := Lib.hid (chk_end HX.out h0)
        have HZ := Lib.hid h0
        have hz : ((ps.length : Int) == 0) = true := by rw [beq_iff_eq]; omega
        clear h0 HX
        go_wp2_with fail
        go_ret
        exact ⟨ret_bool HY.out, hb⟩
      · have HY := Lib.hid (show false = b by rw [← HX.out]; cases ps with | nil => simp at h0 | cons p r => rfl)
        have hz : ((ps.length : Int) == 0) = false := by rw [beq_eq_false_iff_ne]; omega
        clear h0 HX
        go_wp2_with fail
        go_ret
        exact ⟨ret_bool HY.out, hb⟩

theorem check_any (root leaf i n : Int) (A : Option Addr) (C : Nat) (path : List Int) (w : World) (b : Bool) (hR : chkB root leaf i n path = b) (hlf : U64 leaf) (hl : path.length ≤ 9223372036854775807) (hC : path.length ≤ C) (hu : ∀ x ∈ path, U64 x) (h : Sk .u64 w A path) :
    Calls Tryd.prog 20 #[.int .u64 root, .int .u64 leaf, .int .i64 i, .int .i64 n, .slice A path.length C] w fun e w' => e = .returned (.bool b) ∧ Below w.heap.size w w' := by
  by_cases h0 : n ≤ 1024 ∧ 0 ≤ i ∧ i < n
  · obtain ⟨h1, h2, h3⟩ := h0
    unfold chkB at hR
    rw [if_pos ⟨h1, h2, h3⟩] at hR
    obtain ⟨j, rfl⟩ := Int.eq_ofNat_of_zero_le h2
    obtain ⟨m, rfl⟩ := Int.eq_ofNat_of_zero_le (show 0 ≤ n by omega)
    exact check_ok root leaf j m A C path w b hR hlf (by omega) (by omega) hl hC hu h
  · have HB := Lib.hid (show false = b by rw [← hR]; unfold chkB; rw [if_neg h0])
    clear hR hlf hl hC hu h
    by_cases h1 : 1024 < n
    · clear h0
      go_enter Tryd.func20, Tryd.ntmps20
      go_wp2
      go_ret
      exact ⟨ret_bool HB.out, Below.refl _ _⟩
    · have h1' : decide (1024 < n) = false := by simpa using h1
      by_cases h2 : i < 0
      · clear h0 h1
        go_enter Tryd.func20, Tryd.ntmps20
        go_wp2
        go_ret
        exact ⟨ret_bool HB.out, Below.refl _ _⟩
      · have h2' : decide (i < 0) = false := by simpa using h2
        have h3 : n ≤ i := by omega
        clear h0 h1 h2
        go_enter Tryd.func20, Tryd.ntmps20
        go_wp2
        go_ret
        exact ⟨ret_bool HB.out, Below.refl _ _⟩
end Go.Proofs.YtpplpnmammpkpaaDoor
