/-
  The reference of package span: In, Minute, Few, Length, Has, Same, Leaves, taken.
-/
import Derived.Test.YtgdgpfpihpofdaaSpnC
namespace Go.Proofs.Ytgdgpfpihpofdaa
open Go.RowKit Go.Sort
open Go.RowKit (Below)
set_option linter.unusedVariables false

theorem has_take {xs : List Spn} {k : Nat} {m : Int} (h : k < xs.length) : hasS (xs.take (k + 1)) m = (hasS (xs.take k) m || (decide ((gdS xs k).1 ≤ m) && decide (m < (gdS xs k).2))) := by
  rw [takeS h, has_app, has_one]
theorem has_hit {xs : List Spn} {k : Nat} {m : Int} (h : k < xs.length) (h1 : (gdS xs k).1 ≤ m) (h2 : m < (gdS xs k).2) : true = hasS xs m := by
  rw [Eq.comm, has_iff]
  exact ⟨_, gdS_mem h, h1, h2⟩

set_option maxRecDepth 100000 in
set_option maxHeartbeats 400000 in
theorem rin_any (A : Option Addr) (C : Nat) (xs : List Spn) (m : Int) (w : World) (hl : xs.length ≤ 9223372036854775806) (h : SlS w A xs) :
    Calls Try.prog 36 #[.slice A xs.length C, .int .i64 m] w fun e w' => e = .returned (.bool (hasS xs m)) ∧ w = w' := by
  have H := Lib.hid h
  clear h
  go_enter Try.func36, Try.ntmps36
  go_wp2
  go_loop [5] (fun i => ∃ k : Nat, k ≤ xs.length ∧ i = .int .i64 k ∧ Hid (hasS (xs.take k) m = false)) (fun i => xs.length - (intOf i).toNat)
  case atStart => exact ⟨0, Nat.zero_le _, rfl, rfl⟩
  case round =>
    obtain ⟨k, hk, rfl, HK⟩ := hrel
    by_cases hlt : k < xs.length
    · obtain ⟨b, o, rfl, hc, hd⟩ := H.out k hlt
      have HH := Lib.hid (has_hit (m := m) hlt)
      have HT := Lib.hid (has_take (m := m) hlt)
      generalize (gdS xs k).1 = f at *
      generalize (gdS xs k).2 = u at *
      by_cases c1 : f ≤ m
      · by_cases c2 : m < u
        · go_wp2
          go_ret
          exact ⟨ret_bool (HH.out c1 c2), rfl⟩
        · have c2' : decide (m < u) = false := by simpa using c2
          have HN := Lib.hid (show hasS (xs.take (k + 1)) m = false by rw [HT.out, HK.out, c2']; simp)
          go_wp2
          go_round
          case rel => exact ⟨k + 1, by omega, by go_num, HN⟩
          case measure => simp [intOf]; omega
      · have c1' : decide (f ≤ m) = false := by simpa using c1
        have HN := Lib.hid (show hasS (xs.take (k + 1)) m = false by rw [HT.out, HK.out, c1']; simp)
        go_wp2
        go_round
        case rel => exact ⟨k + 1, by omega, by go_num, HN⟩
        case measure => simp [intOf]; omega
    · have HN := Lib.hid (show false = hasS xs m by rw [← HK.out, List.take_of_length_le (by omega)])
      go_wp2
      go_ret
      exact ⟨ret_bool HN.out, rfl⟩

def minu (m : Int) : Bool := decide (0 ≤ m) && decide (m ≤ 600000)
theorem minu_iff {m : Int} : minu m = true ↔ 0 ≤ m ∧ m ≤ 600000 := by simp [minu]
theorem rminute_any (m : Int) (w : World) : Calls Try.prog 28 #[.int .i64 m] w fun e w' => e = .returned (.bool (minu m)) ∧ w = w' := by
  by_cases h1 : 0 ≤ m
  · by_cases h2 : m ≤ 600000
    · go_enter Try.func28, Try.ntmps28
      go_wp2
      go_ret
      exact ⟨ret_bool (by simp [minu, h1, h2]), rfl⟩
    · have h2' : decide (m ≤ 600000) = false := by simpa using h2
      go_enter Try.func28, Try.ntmps28
      go_wp2
      go_ret
      exact ⟨ret_bool (by simp [minu, h1, h2]), rfl⟩
  · have h1' : decide (0 ≤ m) = false := by simpa using h1
    go_enter Try.func28, Try.ntmps28
    go_wp2
    go_ret
    exact ⟨ret_bool (by simp [minu]; omega), rfl⟩
theorem rminute_b (m : Int) (b : Bool) (h : minu m = b) (w : World) : Calls Try.prog 28 #[.int .i64 m] w fun e w' => e = .returned (.bool b) ∧ w = w' := by subst h; exact rminute_any m w
theorem rfew_any (A : Option Addr) (C n : Nat) (w : World) : Calls Try.prog 11 #[.slice A n C] w fun e w' => e = .returned (.bool (decide (n ≤ 40))) ∧ w = w' := by
  go_enter Try.func11, Try.ntmps11
  go_wp2
  go_ret
  exact ⟨ret_bool (by rw [Bool.eq_iff_iff]; simp; try omega), rfl⟩
theorem rvalid_b (A : Option Addr) (C : Nat) (xs : List Spn) (b : Bool) (hb : vldS xs = b) (w : World) (hl : xs.length ≤ 9223372036854775807) (h : SlS w A xs) :
    Calls Try.prog 13 #[.slice A xs.length C] w fun e w' => e = .returned (.bool b) ∧ Below w.heap.size w w' := by
  subst hb
  exact (rvalid_any A C xs w hl h).mono fun e w' ⟨he, n, hw⟩ => ⟨he, by subst hw; exact below_drewN' (Below.refl _ _) n⟩

theorem cnt_snoc (l : List Spn) (s : Spn) : cntS (l ++ [s]) = cntS l + (s.2 - s.1) := by simp [cntS]
theorem lastU_up : ∀ {l : List Spn} {p : Int}, chk p l = true → p ≤ 600001 → p ≤ lastU p l ∧ lastU p l ≤ 600001
  | [], p, _, hp => ⟨Int.le_refl _, hp⟩
  | s :: r, p, h, _ => by
    obtain ⟨h1, h2, h3, h4⟩ := chk_cons.1 h
    have := lastU_up h4 h3
    exact ⟨by show p ≤ lastU s.2 r; omega, this.2⟩
theorem cnt_bd : ∀ {l : List Spn} {p : Int}, chk p l = true → p ≤ 600001 → 0 ≤ cntS l ∧ cntS l ≤ 600001 - p
  | [], p, _, hp => ⟨Int.le_refl _, by show (0 : Int) ≤ _; omega⟩
  | s :: r, p, h, _ => by
    obtain ⟨h1, h2, h3, h4⟩ := chk_cons.1 h
    have := cnt_bd h4 h3
    rw [cnt_cons]
    omega
def lenN (xs : List Spn) : Int := if vldS xs = true then cntS xs else 0
def lenE (xs : List Spn) : Int := if vldS xs = true then 0 else 1
set_option maxRecDepth 100000 in
set_option maxHeartbeats 800000 in
theorem rlength_any (A : Option Addr) (C : Nat) (xs : List Spn) (w : World) (hl : xs.length ≤ 9223372036854775807) (h : SlS w A xs) :
    Calls Try.prog 24 #[.slice A xs.length C] w fun e w' => e = .returned (.tuple #[.int .i64 (lenN xs), .int .i64 (lenE xs)]) ∧ ∃ n, w' = w.drewN n := by
  have H := Lib.hid h
  have HV := Lib.hid (rvalid_any A C xs w (by omega) h)
  clear h
  cases hv : vldS xs with
  | false =>
    rw [hv] at HV
    have e1 := Lib.hid (show 0 = lenN xs by simp [lenN, hv])
    have e2 := Lib.hid (show 1 = lenE xs by simp [lenE, hv])
    clear hv
    go_enter Try.func24, Try.ntmps24
    go_wp2_with fail
    refine HV.out.mono ?_
    rintro e w' ⟨rfl, n, rfl⟩
    go_wp2
    go_ret2
    exact ⟨ret_two e1.out e2.out, n, rfl⟩
  | true =>
    rw [hv] at HV
    have e1 := Lib.hid (show cntS xs = lenN xs by simp [lenN, hv])
    have e2 := Lib.hid (show 0 = lenE xs by simp [lenE, hv])
    have HC := Lib.hid (vldS_iff.1 hv).2
    have h1000 := (vldS_iff.1 hv).1
    clear hv
    go_enter Try.func24, Try.ntmps24
    go_wp2_with fail
    refine HV.out.mono ?_
    rintro e w' ⟨rfl, n0, rfl⟩
    go_wp2_with fail
    go_loopw [5, 6] (fun t i wr => ∃ k : Nat, k ≤ xs.length ∧ i = .int .i64 k ∧ t = .int .i64 (cntS (xs.take k)) ∧ ∃ q, wr = w.drewN q) (fun _ i _ => xs.length - (intOf i).toNat)
    case atStart => exact ⟨0, Nat.zero_le _, rfl, rfl, n0, rfl⟩
    case round =>
      obtain ⟨k, hk, rfl, rfl, q, rfl⟩ := hrel
      have HQ := Lib.hid (fun n => show (w.drewN q).drewN n = w.drewN (q + n) from World.drewN_drewN w q n)
      by_cases hlt : k < xs.length
      · obtain ⟨b, o, rfl, hc0, hd0⟩ := H.out k hlt
        have hc : (w.drewN q).cell? ⟨b, o + k * 2, none⟩ = some (.int .i64 (gdS xs k).1) := hc0
        have hd : (w.drewN q).cell? ⟨b, o + k * 2 + 1, none⟩ = some (.int .i64 (gdS xs k).2) := hd0
        have hb := cnt_bd (chk_take k HC.out) (by omega)
        obtain ⟨m1, m2, m3⟩ := chk_mem HC.out (gdS_mem hlt)
        have HT := Lib.hid (show cntS (xs.take (k + 1)) = cntS (xs.take k) + ((gdS xs k).2 - (gdS xs k).1) by rw [takeS hlt, cnt_snoc])
        clear hc0 hd0
        generalize cntS (xs.take k) = p at *
        generalize (gdS xs k).1 = f at *
        generalize (gdS xs k).2 = u at *
        generalize w.drewN q = wq at *
        obtain ⟨hb1, hb2⟩ := hb
        go_wp2_with fail
        go_quiet (fail)
        go_wp2
        go_roundw
        case rel => exact ⟨k + 1, by omega, by go_num, by rw [HT.out]; exact ret_val (by omega), _, HQ.out _⟩
        case measure => simp [intOf]; omega
      · have HE := Lib.hid (show cntS (xs.take k) = cntS xs by rw [List.take_of_length_le (by omega)])
        rw [HE.out, e1.out]
        go_wp2
        go_ret2
        exact ⟨ret_two rfl e2.out, q, rfl⟩

/-- '==' of two spans. -/
theorem spn_yes {a b c d : Int} (h : a = c ∧ b = d) (w : World) : (binOp .neq 39 (.agg #[.int .i64 a, .int .i64 b]) (.agg #[.int .i64 c, .int .i64 d])).run Try.prog w = .ok (.bool false) w := by
  obtain ⟨rfl, rfl⟩ := h
  simp [go_sem]
theorem spn_no {a b c d : Int} (h : ¬ (a = c ∧ b = d)) (w : World) : (binOp .neq 39 (.agg #[.int .i64 a, .int .i64 b]) (.agg #[.int .i64 c, .int .i64 d])).run Try.prog w = .ok (.bool true) w := by
  by_cases h1 : a = c
  · have h2 : ¬ b = d := fun e => h ⟨h1, e⟩
    simp [go_sem, h1, h2]
  · simp [go_sem, h1]
theorem listS_ext {xs ys : List Spn} (hl : xs.length = ys.length) (h : ∀ j, j < xs.length → gdS xs j = gdS ys j) : xs = ys := by
  apply List.ext_getElem hl
  intro i h1 h2
  have := h i h1
  rwa [gdS_at h1, gdS_at h2] at this
set_option maxRecDepth 100000 in
set_option maxHeartbeats 800000 in
theorem rsame_any (A B : Option Addr) (C D : Nat) (xs ys : List Spn) (w : World) (hl : xs.length ≤ 100000) (hl2 : ys.length ≤ 100000) (hx : SlS w A xs) (hy : SlS w B ys) :
    Calls Try.prog 16 #[.slice A xs.length C, .slice B ys.length D] w fun e w' => e = .returned (.bool (decide (xs = ys))) ∧ ∃ n, w' = w.drewN n := by
  by_cases hn : xs.length = ys.length
  · have HX := Lib.hid hx
    have HY := Lib.hid hy
    have HN := Lib.hid hn
    have hn1 : ((xs.length : Int) != (ys.length : Int)) = false := by rw [bne_eq_false_iff_eq]; omega
    have hn2 : xs.length ≤ ys.length := by omega
    clear hx hy hn
    go_enter Try.func16, Try.ntmps16
    go_wp2
    go_loopw [5] (fun i wr => ∃ k : Nat, k ≤ xs.length ∧ i = .int .i64 k ∧ Hid (∀ j, j < k → gdS xs j = gdS ys j) ∧ ∃ q, wr = w.drewN q) (fun i _ => xs.length - (intOf i).toNat)
    case atStart => exact ⟨0, Nat.zero_le _, rfl, fun j hj => absurd hj (Nat.not_lt_zero j), 0, rfl⟩
    case round =>
      obtain ⟨k, hk, rfl, HK, q, rfl⟩ := hrel
      have HQ := Lib.hid (fun n => show (w.drewN q).drewN n = w.drewN (q + n) from World.drewN_drewN w q n)
      by_cases hlt : k < xs.length
      · obtain ⟨b, o, rfl, hc0, hd0⟩ := HX.out k hlt
        obtain ⟨b', o', rfl, hc1, hd1⟩ := HY.out k (by omega)
        have hc : (w.drewN q).cell? ⟨b, o + k * 2, none⟩ = some (.int .i64 (gdS xs k).1) := hc0
        have hd : (w.drewN q).cell? ⟨b, o + k * 2 + 1, none⟩ = some (.int .i64 (gdS xs k).2) := hd0
        have hc' : (w.drewN q).cell? ⟨b', o' + k * 2, none⟩ = some (.int .i64 (gdS ys k).1) := hc1
        have hd' : (w.drewN q).cell? ⟨b', o' + k * 2 + 1, none⟩ = some (.int .i64 (gdS ys k).2) := hd1
        clear hc0 hd0 hc1 hd1
        have HE := Lib.hid (show (gdS xs k).1 = (gdS ys k).1 ∧ (gdS xs k).2 = (gdS ys k).2 ↔ gdS xs k = gdS ys k from ⟨fun h => Prod.ext h.1 h.2, fun h => by rw [h]; exact ⟨rfl, rfl⟩⟩)
        generalize (gdS xs k).1 = f at *
        generalize (gdS xs k).2 = u at *
        generalize (gdS ys k).1 = f' at *
        generalize (gdS ys k).2 = u' at *
        generalize w.drewN q = wq at *
        by_cases e : f = f' ∧ u = u'
        · have ey := spn_yes e
          have HE2 := Lib.hid (HE.out.1 e)
          clear e HE
          go_wp2_with fail
          go_quiet (fail)
          go_wp2
          go_roundw
          case rel => exact ⟨k + 1, by omega, by go_num, fun j hj => by
              by_cases e : j = k
              · subst e; exact HE2.out
              · exact HK.out j (by omega), _, HQ.out _⟩
          case measure => simp [intOf]; omega
        · have ey := spn_no e
          have HE2 := Lib.hid (fun h => e (HE.out.2 h))
          clear e HE
          go_wp2_with fail
          go_quiet (fail)
          go_wp2
          go_ret
          exact ⟨ret_bool (by rw [Eq.comm, decide_eq_false_iff_not]; rintro rfl; exact HE2.out rfl), _, HQ.out _⟩
      · go_wp2
        go_ret
        exact ⟨ret_bool (by rw [Eq.comm, decide_eq_true_eq]; exact listS_ext HN.out fun j hj => HK.out j (by omega)), _, rfl⟩
  · have HN := Lib.hid hn
    have hn1 : ((xs.length : Int) != (ys.length : Int)) = true := by rw [bne_iff_ne]; omega
    clear hn
    go_enter Try.func16, Try.ntmps16
    go_wp2
    go_ret
    exact ⟨ret_bool (by rw [Eq.comm, decide_eq_false_iff_not]; rintro rfl; exact HN.out rfl), 0, rfl⟩

theorem rtaken_1 (a b : Bool) (w : World) : Calls Try.prog 44 #[.int .i64 1, .bool a, .bool b] w fun e w' => e = .returned (.bool (opO a b)) ∧ w = w' := by
  cases a <;> cases b
  all_goals
    go_enter Try.func44, Try.ntmps44
    go_wp2
    go_ret
    exact ⟨rfl, rfl⟩
theorem rtaken_2 (a b : Bool) (w : World) : Calls Try.prog 44 #[.int .i64 2, .bool a, .bool b] w fun e w' => e = .returned (.bool (opA a b)) ∧ w = w' := by
  cases a <;> cases b
  all_goals
    go_enter Try.func44, Try.ntmps44
    go_wp2
    go_ret
    exact ⟨rfl, rfl⟩
theorem rtaken_3 (a b : Bool) (w : World) : Calls Try.prog 44 #[.int .i64 3, .bool a, .bool b] w fun e w' => e = .returned (.bool (opD a b)) ∧ w = w' := by
  cases a <;> cases b
  all_goals
    go_enter Try.func44, Try.ntmps44
    go_wp2
    go_ret
    exact ⟨rfl, rfl⟩
end Go.Proofs.Ytgdgpfpihpofdaa
