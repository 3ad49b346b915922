/-
  The reference of package money, the leaves: Amount, Currency, Whole, Same; the law's own size.
-/
import Derived.Test.YtanncjkkaeeiaaaGreatDoorMonH
namespace Go.Proofs.YtanncjkkaeeiaaaGreatDoor
open Go.RowKit Go.Sort
open Go.RowKit (Below)
set_option linter.unusedVariables false

set_option maxHeartbeats 400000 in
theorem refam_any (x : Int) (w : World) : Calls Tryz.prog 21 #[.int .i64 x] w fun e w' => e = .returned (.bool (am x)) ∧ w = w' := by
  by_cases h1 : -1000000000 ≤ x
  · go_enter Tryz.func21, Tryz.ntmps21
    go_wp2
    go_ret
    exact ⟨ret_bool (by unfold am; simp; omega), rfl⟩
  · have h1' : decide (-1000000000 ≤ x) = false := by simpa using h1
    go_enter Tryz.func21, Tryz.ntmps21
    go_wp2
    go_ret
    exact ⟨ret_bool (by unfold am; simp; omega), rfl⟩
theorem refam_b (x : Int) (b : Bool) (h : am x = b) (w : World) : Calls Tryz.prog 21 #[.int .i64 x] w fun e w' => e = .returned (.bool b) ∧ w = w' := by
  subst h; exact refam_any x w

set_option maxHeartbeats 400000 in
theorem refcur_b (x : Int) (b : Bool) (h : cur x = b) (w : World) : Calls Tryz.prog 30 #[.int .i64 x] w fun e w' => e = .returned (.bool b) ∧ w = w' := by
  subst h
  by_cases h0 : x = 0
  · subst h0
    go_enter Tryz.func30, Tryz.ntmps30
    go_wp2
    go_ret
    exact ⟨rfl, rfl⟩
  · have h0' : (x == 0) = false := by simpa using h0
    have HC := Lib.hid (show (x == 1) = cur x by rw [Bool.eq_iff_iff, cur_iff, beq_iff_eq]; omega)
    clear h0
    go_enter Tryz.func30, Tryz.ntmps30
    go_wp2
    go_ret
    exact ⟨ret_bool HC.out, rfl⟩

/-- The sum of weights, or 0. -/
def whole (ws : List Int) : Int := if wts ws = true then ws.sum else 0
theorem whole_pos {ws : List Int} (h : wts ws = true) : 0 < whole ws ∧ whole ws = ws.sum := by
  obtain ⟨_, _, h3⟩ := wts_iff.1 h
  rw [whole, if_pos h]; exact ⟨h3, rfl⟩
theorem whole_no {ws : List Int} (h : wts ws = false) : whole ws = 0 := by rw [whole, if_neg (by simp [h])]
theorem whole_all {ws : List Int} (h1 : ws.length ≤ 64) (h2 : ∀ x ∈ ws, 0 ≤ x ∧ x ≤ 1000000) : ws.sum = whole ws := by
  by_cases h : wts ws = true
  · rw [whole, if_pos h]
  · rw [whole, if_neg h]
    have h3 : ¬ 0 < ws.sum := fun h3 => h (wts_iff.2 ⟨h1, h2, h3⟩)
    have h4 : ∀ l : List Int, (∀ x ∈ l, 0 ≤ x ∧ x ≤ 1000000) → 0 ≤ l.sum := by
      intro l
      induction l with
      | nil => simp
      | cons a l ih => intro h; have := h a (by simp); have := ih fun y hy => h y (by simp [hy]); simp only [List.sum_cons]; omega
    have := h4 ws h2
    omega

set_option maxHeartbeats 400000 in
theorem refwhole_any (A : Option Addr) (c : Nat) (xs : List Int) (w : World) (hl : xs.length ≤ 9223372036854775807) (h : Sl w A xs) :
    Calls Tryz.prog 27 #[.slice A xs.length c] w fun e w' => e = .returned (.int .i64 (whole xs)) ∧ w = w' := by
  by_cases h0 : xs.length < 1
  · have HW := Lib.hid (show 0 = whole xs by rw [whole_no]; rw [← Bool.not_eq_true, wts_iff]; have : xs = [] := List.eq_nil_of_length_eq_zero (by omega); subst this; simp)
    go_enter Tryz.func27, Tryz.ntmps27
    go_wp2
    go_ret
    exact ⟨ret_int HW.out, rfl⟩
  by_cases h64 : 64 < xs.length
  · have HW := Lib.hid (show 0 = whole xs by rw [whole_no]; rw [← Bool.not_eq_true, wts_iff]; omega)
    have h0' : decide ((xs.length : Int) < 1) = false := by simp; omega
    go_enter Tryz.func27, Tryz.ntmps27
    go_wp2
    go_ret
    exact ⟨ret_int HW.out, rfl⟩
  · have H := Lib.hid h
    have HS := Lib.hid (sum_step xs)
    have h0' : decide ((xs.length : Int) < 1) = false := by simp; omega
    clear h
    go_enter Tryz.func27, Tryz.ntmps27
    go_wp2
    go_loop [3, 4] (fun t i => ∃ k : Nat, k ≤ xs.length ∧ i = .int .i64 k ∧ t = .int .i64 (xs.take k).sum ∧ Hid (∀ j, j < k → 0 ≤ gd xs j ∧ gd xs j ≤ 1000000)) (fun _ i => xs.length - (intOf i).toNat)
    case atStart => exact ⟨0, Nat.zero_le _, rfl, rfl, fun j hj => absurd hj (Nat.not_lt_zero j)⟩
    case round =>
      obtain ⟨k, hk, rfl, rfl, HK⟩ := hrel
      have hb : -(1000000 * k) ≤ (xs.take k).sum ∧ (xs.take k).sum ≤ 1000000 * k := by
        have := sum_bd (m := 1000000) (xs.take k) fun x hx => by
          obtain ⟨j, hj, rfl⟩ := List.getElem_of_mem hx
          have h1 : j < k := by have := List.length_take_le k xs; omega
          have h2 : j < xs.length := by omega
          have := HK.out j h1
          rw [gd_at h2] at this
          rw [List.getElem_take]
          omega
        have h2 : (xs.take k).length = k := by simp; omega
        rwa [h2] at this
      by_cases hlt : k < xs.length
      · obtain ⟨b, o, rfl, hc⟩ := H.out k hlt
        have HM := Lib.hid (getD_mem hlt)
        have HE := Lib.hid (HS.out k hlt)
        by_cases h0 : gd xs k < 0
        · go_wp2
          go_ret
          exact ⟨ret_int (whole_no (wts_no HM.out (.inl h0)).symm).symm, rfl⟩
        · have h0' : decide (gd xs k < 0) = false := by simpa using h0
          by_cases h1 : 1000000 < gd xs k
          · go_wp2
            go_ret
            exact ⟨ret_int (whole_no (wts_no HM.out (.inr h1)).symm).symm, rfl⟩
          · go_wp2
            go_round
            case rel => exact ⟨k + 1, by omega, by go_num, by rw [HE.out], fun j hj => by
              by_cases e : j = k
              · subst e; omega
              · exact HK.out j (by omega)⟩
            case measure => simp [intOf]; omega
      · have hx : ∀ x ∈ xs, 0 ≤ x ∧ x ≤ 1000000 := by
          intro x hx
          obtain ⟨j, hj, rfl⟩ := List.getElem_of_mem hx
          have := HK.out j (by omega)
          rwa [gd_at hj] at this
        have HX := Lib.hid hx
        clear hx
        go_wp2
        go_ret
        exact ⟨ret_int ((sum_all xs k hlt).trans (whole_all (by omega) HX.out)), rfl⟩

theorem list_ext {xs ys : List Int} (hl : xs.length = ys.length) (h : ∀ j, j < xs.length → gd xs j = gd ys j) : xs = ys := by
  apply List.ext_getElem hl
  intro i h1 h2
  have := h i h1
  rwa [gd_at h1, gd_at h2] at this

set_option maxHeartbeats 400000 in
theorem same_any (A B : Option Addr) (c d : Nat) (xs ys : List Int) (w : World) (hl : xs.length ≤ 100000) (hl2 : ys.length ≤ 100000) (hx : Sl w A xs) (hy : Sl w B ys) :
    Calls Tryz.prog 12 #[.slice A xs.length c, .slice B ys.length d] w fun e w' => e = .returned (.bool (decide (xs = ys))) ∧ ∃ n, w' = w.drewN n := by
  by_cases hn : xs.length = ys.length
  · have HX := Lib.hid hx
    have HY := Lib.hid hy
    have HN := Lib.hid hn
    have hn1 : ((xs.length : Int) != (ys.length : Int)) = false := by rw [bne_eq_false_iff_eq]; omega
    have hn2 : xs.length ≤ ys.length := by omega
    clear hx hy hn
    go_enter Tryz.func12, Tryz.ntmps12
    go_wp2
    go_loopw [5] (fun i wr => ∃ k : Nat, k ≤ xs.length ∧ i = .int .i64 k ∧ Hid (∀ j, j < k → gd xs j = gd ys j) ∧ ∃ q, wr = w.drewN q) (fun i _ => xs.length - (intOf i).toNat)
    case atStart => exact ⟨0, Nat.zero_le _, rfl, fun j hj => absurd hj (Nat.not_lt_zero j), 0, rfl⟩
    case round =>
      obtain ⟨k, hk, rfl, HK, q, rfl⟩ := hrel
      by_cases hlt : k < xs.length
      · obtain ⟨b, o, rfl, hc⟩ := HX.out k hlt
        obtain ⟨b', o', rfl, hc'⟩ := HY.out k (by omega)
        by_cases e : gd xs k = gd ys k
        · have HE := Lib.hid e
          have e' : (gd xs k != gd ys k) = false := by rw [bne_eq_false_iff_eq]; exact e
          clear e
          go_wp2
          go_quiet (fail)
          go_wp2
          go_roundw
          case rel => exact ⟨k + 1, by omega, by go_num, fun j hj => by
              by_cases e : j = k
              · subst e; exact HE.out
              · exact HK.out j (by omega), _, by first | exact World.drewN_drewN _ _ _ | rfl⟩
          case measure => simp [intOf]; omega
        · have HE := Lib.hid e
          have e' : (gd xs k != gd ys k) = true := by rw [bne_iff_ne]; exact e
          clear e
          go_wp2
          go_quiet (fail)
          go_wp2
          go_ret
          exact ⟨ret_bool (by rw [Eq.comm, decide_eq_false_iff_not]; rintro rfl; exact HE.out rfl), _, by first | exact World.drewN_drewN _ _ _ | rfl⟩
      · go_wp2
        go_ret
        exact ⟨ret_bool (by rw [Eq.comm, decide_eq_true_eq]; exact list_ext HN.out fun j hj => HK.out j (by omega)), _, rfl⟩
  · have HN := Lib.hid hn
    have hn1 : ((xs.length : Int) != (ys.length : Int)) = true := by rw [bne_iff_ne]; omega
    clear hn
    go_enter Tryz.func12, Tryz.ntmps12
    go_wp2
    go_ret
    exact ⟨ret_bool (by rw [Eq.comm, decide_eq_false_iff_not]; rintro rfl; exact HN.out rfl), 0, rfl⟩
end Go.Proofs.YtanncjkkaeeiaaaGreatDoor
