/-
  The reference of package digest: Check.
-/
import Derived.Test.YtpplpnmammpkpaaDoorDigRD
namespace Go.Proofs.YtpplpnmammpkpaaDoor
open Go.RowKit Go.Sort
open Go.RowKit (Below)
set_option linter.unusedVariables false
set_option linter.unusedSimpArgs false

theorem drop_cons' {p : List Int} {k : Nat} (h : k < p.length) : p.drop k = gd p k :: p.drop (k + 1) := by rw [List.drop_eq_getElem_cons h, gd_at h]

set_option maxRecDepth 100000 in
set_option maxHeartbeats 2000000 in
theorem rcheck_ok (root leaf : Int) (i n : Nat) (A : Option Addr) (C : Nat) (path : List Int) (w : World) (b : Bool) (hR : chkW root (leafN leaf) i n path = b) (hlf : U64 leaf) (hn : n ≤ 1024) (hi : i < n) (hl : path.length ≤ 100000) (hu : ∀ x ∈ path, U64 x) (h : Sk .u64 w A path) :
    Calls Tryd.prog 21 #[.int .u64 root, .int .u64 leaf, .int .i64 i, .int .i64 n, .slice A path.length C] w fun e w' => e = .returned (.bool b) ∧ Below w.heap.size w w' := by
  have H := Lib.hid h
  have HU := Lib.hid hu
  have HF := Lib.hid hlf
  have HI0 := Lib.hid (show chkW root (leafN leaf) i n (path.drop 0) = b ∧ i < n ∧ n ≤ 1024 ∧ U64 (leafN leaf) from ⟨by rw [List.drop_zero]; exact hR, hi, hn, leafN_u _⟩)
  have h0 : decide ((n : Int) < 1) = false := by rw [decide_eq_false_iff_not]; omega
  have h1 : decide ((i : Int) < 0) = false := by simp
  have h2 : decide ((n : Int) ≤ (i : Int)) = false := by simp; omega
  have h3 : decide (1024 < (n : Int)) = false := by simp; omega
  clear h hu hR hlf
  have HCL := Lib.hid (fun W => rleaf_any leaf HF.out W)
  generalize leafN leaf = lf at *
  go_enter Tryd.func21, Tryd.ntmps21
  go_wp2_with fail
  refine (HCL.out _).mono ?_
  rintro e w1 ⟨rfl, hb1⟩
  clear h0 h1 h2 h3 hi hn HCL
  go_wp2_with fail
  go_loopw [2, 3, 11, 12] (fun a c t v wr => ∃ (j m u : Nat) (way : Int), a = .int .i64 j ∧ c = .int .i64 m ∧ t = .int .u64 way ∧ v = .int .i64 u ∧ u ≤ path.length ∧ Hid (chkW root way j m (path.drop u) = b ∧ j < m ∧ m ≤ 1024 ∧ U64 way) ∧ Below w.heap.size w wr) (fun _ c _ _ _ => (intOf c).toNat)
  case atStart => exact ⟨i, n, 0, lf, rfl, rfl, rfl, rfl, Nat.zero_le _, HI0, hb1⟩
  case round =>
    obtain ⟨j, m, u, way, rfl, rfl, rfl, rfl, hul, HI, hb⟩ := hrel
    have hm := HI.out.2.2.1
    have hj := HI.out.2.1
    clear HI0 hb1
    by_cases h1 : 1 < m
    · have hd1 : decide ((1 : Int) < (m : Int)) = true := by rw [decide_eq_true_eq]; omega
      by_cases ho : j % 2 = 1
      · have ho1 : ((j : Int) % 2 == 1) = true := by rw [beq_iff_eq]; omega
        by_cases hu : u < path.length
        · have hu1 : ((u : Int) == (path.length : Int)) = false := by rw [beq_eq_false_iff_ne]; omega
          have hu2 : (u : Int) < (path.length : Int) := by omega
          obtain ⟨bb, o, rfl, hc0⟩ := H.out u hu
          have hc := cell_on hb (block_lt hc0) hc0
          have hch := HI.out.1
          have HP := Lib.hid (gd_u HU.out u)
          have HW := Lib.hid HI.out.2.2.2
          rw [drop_cons' hu] at hch
          clear hc0
          generalize gd path u = p at *
          have HN := Lib.hid (show chkW root (pairN p way) (j / 2) ((m + 1) / 2) (path.drop (u + 1)) = b ∧ j / 2 < (m + 1) / 2 ∧ (m + 1) / 2 ≤ 1024 ∧ U64 (pairN p way) from ⟨by rw [← chkW_odd _ _ _ _ _ _ h1 ho]; exact hch, by omega, by omega, pairN_u _ _⟩)
          have HCP := Lib.hid (fun W => rpair_any p way HP.out HW.out W)
          generalize pairN p way = w2 at *
          clear hch ho HI
          go_wp2_with fail
          refine (HCP.out _).mono ?_
          rintro e w3 ⟨rfl, hb3⟩
          have hB := on_below hb hb3
          clear hb3 HCP hb hc
          go_wp2_with fail
          go_roundw
          case rel => exact ⟨j / 2, (m + 1) / 2, u + 1, w2, by go_num, by go_num, rfl, by go_num, by omega, HN, hB⟩
          case measure => simp [intOf]; omega
        · have hu1 : ((u : Int) == (path.length : Int)) = true := by rw [beq_iff_eq]; omega
          have HX := Lib.hid (show false = b by rw [← HI.out.1, List.drop_eq_nil_of_le (by omega), chkW_odd0 _ _ _ _ h1 ho])
          clear HI ho hu
          go_wp2_with fail
          go_ret
          exact ⟨ret_bool HX.out, hb⟩
      · have ho1 : ((j : Int) % 2 == 1) = false := by rw [beq_eq_false_iff_ne]; omega
        by_cases hx : j + 1 < m
        · have q1 : decide ((j : Int) + 1 < (m : Int)) = true := by rw [decide_eq_true_eq]; omega
          have q2 : (j : Int) + 1 < (m : Int) := by omega
          by_cases hu : u < path.length
          · have hu1 : ((u : Int) == (path.length : Int)) = false := by rw [beq_eq_false_iff_ne]; omega
            have hu2 : (u : Int) < (path.length : Int) := by omega
            obtain ⟨bb, o, rfl, hc0⟩ := H.out u hu
            have hc := cell_on hb (block_lt hc0) hc0
            have hch := HI.out.1
            have HP := Lib.hid (gd_u HU.out u)
            have HW := Lib.hid HI.out.2.2.2
            rw [drop_cons' hu] at hch
            clear hc0
            generalize gd path u = p at *
            have HN := Lib.hid (show chkW root (pairN way p) (j / 2) ((m + 1) / 2) (path.drop (u + 1)) = b ∧ j / 2 < (m + 1) / 2 ∧ (m + 1) / 2 ≤ 1024 ∧ U64 (pairN way p) from ⟨by rw [← chkW_even _ _ _ _ _ _ h1 ho hx]; exact hch, by omega, by omega, pairN_u _ _⟩)
            have HCP := Lib.hid (fun W => rpair_any way p HW.out HP.out W)
            generalize pairN way p = w2 at *
            clear hch ho HI
            go_wp2_with fail
            refine (HCP.out _).mono ?_
            rintro e w3 ⟨rfl, hb3⟩
            have hB := on_below hb hb3
            clear hb3 HCP hb hc
            go_wp2_with fail
            go_roundw
            case rel => exact ⟨j / 2, (m + 1) / 2, u + 1, w2, by go_num, by go_num, rfl, by go_num, by omega, HN, hB⟩
            case measure => simp [intOf]; omega
          · have hu1 : ((u : Int) == (path.length : Int)) = true := by rw [beq_iff_eq]; omega
            have HX := Lib.hid (show false = b by rw [← HI.out.1, List.drop_eq_nil_of_le (by omega), chkW_even0 _ _ _ _ h1 ho hx])
            clear HI ho hu
            go_wp2_with fail
            go_ret
            exact ⟨ret_bool HX.out, hb⟩
        · have q1 : decide ((j : Int) + 1 < (m : Int)) = false := by rw [decide_eq_false_iff_not]; omega
          have HN := Lib.hid (show chkW root way (j / 2) ((m + 1) / 2) (path.drop u) = b ∧ j / 2 < (m + 1) / 2 ∧ (m + 1) / 2 ≤ 1024 ∧ U64 way from ⟨by rw [← chkW_up _ _ _ _ _ h1 ho hx]; exact HI.out.1, by omega, by omega, HI.out.2.2.2⟩)
          clear HI ho
          go_wp2_with fail
          go_roundw
          case rel => exact ⟨j / 2, (m + 1) / 2, u, way, by go_num, by go_num, rfl, rfl, hul, HN, hb⟩
          case measure => simp [intOf]; omega
    · have hd1 : decide ((1 : Int) < (m : Int)) = false := by rw [decide_eq_false_iff_not]; omega
      have HX := Lib.hid (show ((path.drop u).isEmpty && way == root) = b by rw [← chkW_one root way j m _ h1]; exact HI.out.1)
      by_cases hu : u < path.length
      · have hu1 : ((u : Int) == (path.length : Int)) = false := by rw [beq_eq_false_iff_ne]; omega
        have HY := Lib.hid (show false = b by rw [← HX.out, drop_cons' hu]; rfl)
        clear HI hu HX
        go_wp2_with fail
        go_ret
        exact ⟨ret_bool HY.out, hb⟩
      · have hu1 : ((u : Int) == (path.length : Int)) = true := by rw [beq_iff_eq]; omega
        have HY := Lib.hid (show (way == root) = b by rw [← HX.out, List.drop_eq_nil_of_le (by omega)]; rfl)
        clear HI hu HX
        go_wp2_with fail
        go_ret
        exact ⟨ret_bool HY.out, hb⟩

theorem rcheck_any (root leaf i n : Int) (A : Option Addr) (C : Nat) (path : List Int) (w : World) (b : Bool) (hR : chkB root leaf i n path = b) (hlf : U64 leaf) (hl : path.length ≤ 100000) (hu : ∀ x ∈ path, U64 x) (h : Sk .u64 w A path) :
    Calls Tryd.prog 21 #[.int .u64 root, .int .u64 leaf, .int .i64 i, .int .i64 n, .slice A path.length C] w fun e w' => e = .returned (.bool b) ∧ Below w.heap.size w w' := by
  by_cases h0 : n ≤ 1024 ∧ 0 ≤ i ∧ i < n
  · obtain ⟨h1, h2, h3⟩ := h0
    unfold chkB at hR
    rw [if_pos ⟨h1, h2, h3⟩] at hR
    obtain ⟨j, rfl⟩ := Int.eq_ofNat_of_zero_le h2
    obtain ⟨m, rfl⟩ := Int.eq_ofNat_of_zero_le (show 0 ≤ n by omega)
    exact rcheck_ok root leaf j m A C path w b hR hlf (by omega) (by omega) hl hu h
  · have HB := Lib.hid (show false = b by rw [← hR]; unfold chkB; rw [if_neg h0])
    clear hR hlf hl hu h
    by_cases h4 : n < 1
    · clear h0
      go_enter Tryd.func21, Tryd.ntmps21
      go_wp2
      go_ret
      exact ⟨ret_bool HB.out, Below.refl _ _⟩
    · have h4' : decide (n < 1) = false := by simpa using h4
      by_cases h1 : 1024 < n
      · clear h0 h4
        go_enter Tryd.func21, Tryd.ntmps21
        go_wp2
        go_ret
        exact ⟨ret_bool HB.out, Below.refl _ _⟩
      · have h1' : decide (1024 < n) = false := by simpa using h1
        by_cases h2 : i < 0
        · clear h0 h1 h4
          go_enter Tryd.func21, Tryd.ntmps21
          go_wp2
          go_ret
          exact ⟨ret_bool HB.out, Below.refl _ _⟩
        · have h2' : decide (i < 0) = false := by simpa using h2
          have h3 : n ≤ i := by omega
          clear h0 h1 h2 h4
          go_enter Tryd.func21, Tryd.ntmps21
          go_wp2
          go_ret
          exact ⟨ret_bool HB.out, Below.refl _ _⟩
end Go.Proofs.YtpplpnmammpkpaaDoor
