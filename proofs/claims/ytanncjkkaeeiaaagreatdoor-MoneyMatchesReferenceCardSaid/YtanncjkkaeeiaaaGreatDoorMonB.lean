/-
  Package money, the leaves: valid, result, absolute, signed, isCurrency; sum, areWeights and Add over a list; for all ints.
-/
import Derived.Test.YtanncjkkaeeiaaaGreatDoorMonV
import Derived.Lib.Hide
import Derived.Deep.LoopGhost
namespace Go.Proofs.YtanncjkkaeeiaaaGreatDoor
open Go.RowKit Go.Sort
open Go.RowKit (Below)

/-- Is it an amount? -/
def am (x : Int) : Bool := decide (-1000000000 ≤ x) && decide (x ≤ 1000000000)
theorem am_iff {x : Int} : am x = true ↔ -1000000000 ≤ x ∧ x ≤ 1000000000 := by simp [am]
theorem am_no {x : Int} : am x = false ↔ x < -1000000000 ∨ 1000000000 < x := by
  rw [← Bool.not_eq_true, am_iff]; omega
theorem ret_two {k k' : IntKind} {a b c d : Int} (h : a = b) (h' : c = d) : Ending.returned (.tuple #[.int k a, .int k' c]) = .returned (.tuple #[.int k b, .int k' d]) := by rw [h, h']

set_option maxHeartbeats 400000 in
theorem valid_amt (x : Int) (w : World) : Calls Tryz.prog 19 #[.int .i64 x] w fun e w' => e = .returned (.bool (am x)) ∧ w = w' := by
  by_cases h1 : -1000000000 ≤ x
  · go_enter Tryz.func19, Tryz.ntmps19
    go_wp2
    go_ret
    exact ⟨ret_bool (by unfold am; simp; omega), rfl⟩
  · have h1' : decide (-1000000000 ≤ x) = false := by simpa using h1
    go_enter Tryz.func19, Tryz.ntmps19
    go_wp2
    go_ret
    exact ⟨ret_bool (by unfold am; simp; omega), rfl⟩
theorem valid_amt_b (x : Int) (b : Bool) (h : am x = b) (w : World) : Calls Tryz.prog 19 #[.int .i64 x] w fun e w' => e = .returned (.bool b) ∧ w = w' := by
  subst h; exact valid_amt x w

def rsN (x : Int) : Int := if am x = true then x else 0
def rsE (x : Int) : Int := if am x = true then 0 else 3
set_option maxHeartbeats 400000 in
theorem result_any (x : Int) (w : World) : Calls Tryz.prog 20 #[.int .i64 x] w fun e w' => e = .returned (.tuple #[.int .i64 (rsN x), .int .i64 (rsE x)]) ∧ w = w' := by
  cases h : am x with
  | true =>
    have H := Lib.hid h
    clear h
    go_enter Tryz.func20, Tryz.ntmps20
    go_wp2_with (go_at_call 19; refine (valid_amt_b _ true H.out _).mono ?_; rintro e w' ⟨rfl, rfl⟩)
    go_ret2
    exact ⟨ret_two (by simp [rsN, H.out]) (by simp [rsE, H.out]), rfl⟩
  | false =>
    have H := Lib.hid h
    clear h
    go_enter Tryz.func20, Tryz.ntmps20
    go_wp2_with (go_at_call 19; refine (valid_amt_b _ false H.out _).mono ?_; rintro e w' ⟨rfl, rfl⟩)
    go_ret2
    exact ⟨ret_two (by simp [rsN, H.out]) (by simp [rsE, H.out]), rfl⟩

set_option maxHeartbeats 400000 in
theorem abs_amt (x : Int) (w : World) (h1 : -9223372036854775807 ≤ x) (h2 : x ≤ 9223372036854775807) :
    Calls Tryz.prog 38 #[.int .i64 x] w fun e w' => e = .returned (.int .i64 x.natAbs) ∧ w = w' := by
  by_cases hx : x < 0
  · go_enter Tryz.func38, Tryz.ntmps38
    go_wp2
    go_ret
    exact ⟨ret_int (by omega), rfl⟩
  · go_enter Tryz.func38, Tryz.ntmps38
    go_wp2
    go_ret
    exact ⟨ret_int (by omega), rfl⟩

set_option maxHeartbeats 400000 in
theorem signed_any (c x : Int) (w : World) (h1 : -9223372036854775807 ≤ x) (h2 : x ≤ 9223372036854775807) :
    Calls Tryz.prog 39 #[.int .i64 c, .int .i64 x] w fun e w' => e = .returned (.int .i64 (sgd c x)) ∧ w = w' := by
  by_cases hx : c < 0
  · go_enter Tryz.func39, Tryz.ntmps39
    go_wp2
    go_ret
    exact ⟨ret_int (by unfold sgd; rw [if_pos hx]), rfl⟩
  · go_enter Tryz.func39, Tryz.ntmps39
    go_wp2
    go_ret
    exact ⟨ret_int (by unfold sgd; rw [if_neg (by omega)]), rfl⟩

/-- Is it a currency? -/
def cur (x : Int) : Bool := decide (0 ≤ x) && decide (x < 2)
theorem cur_iff {x : Int} : cur x = true ↔ x = 0 ∨ x = 1 := by simp [cur]; omega
set_option maxHeartbeats 400000 in
theorem cur_any (x : Int) (w : World) : Calls Tryz.prog 28 #[.int .i64 x] w fun e w' => e = .returned (.bool (cur x)) ∧ w = w' := by
  by_cases h1 : 0 ≤ x
  · go_enter Tryz.func28, Tryz.ntmps28
    go_wp2
    go_ret
    exact ⟨ret_bool (by unfold cur; simp; omega), rfl⟩
  · have h1' : decide (0 ≤ x) = false := by simpa using h1
    go_enter Tryz.func28, Tryz.ntmps28
    go_wp2
    go_ret
    exact ⟨ret_bool (by unfold cur; simp; omega), rfl⟩
theorem cur_b (x : Int) (b : Bool) (h : cur x = b) (w : World) : Calls Tryz.prog 28 #[.int .i64 x] w fun e w' => e = .returned (.bool b) ∧ w = w' := by
  subst h; exact cur_any x w

/-! ### Lists -/
/-- The number at place k. -/
def gd (xs : List Int) (k : Nat) : Int := xs.getD k 0
theorem gd_at {xs : List Int} {k : Nat} (h : k < xs.length) : gd xs k = xs[k] := by simp [gd, List.getD_eq_getElem?_getD, h]
/-- The slice at A reads as xs. -/
def Sl (w : World) (A : Option Addr) (xs : List Int) : Prop := ∀ k, k < xs.length → ∃ b o, A = some ⟨b, o, none⟩ ∧ w.cell? ⟨b, o + k, none⟩ = some (.int .i64 (gd xs k))
theorem sum_step (xs : List Int) (k : Nat) (h : k < xs.length) : (xs.take (k + 1)).sum = (xs.take k).sum + gd xs k := by
  rw [List.take_succ_eq_append_getElem h, List.sum_append]
  simp [gd_at h]
theorem sum_all (xs : List Int) (k : Nat) (h : ¬ k < xs.length) : (xs.take k).sum = xs.sum := by rw [List.take_of_length_le (by omega)]
theorem sum_bd {m : Int} : ∀ (xs : List Int), (∀ x ∈ xs, -m ≤ x ∧ x ≤ m) → -(m * xs.length) ≤ xs.sum ∧ xs.sum ≤ m * xs.length
  | [], _ => by simp
  | x :: xs, h => by
    have h1 := h x (by simp)
    have h2 := sum_bd xs fun y hy => h y (by simp [hy])
    simp only [List.sum_cons, List.length_cons, Int.natCast_add, Int.mul_add]
    simp only [Int.natCast_one, Int.mul_one]
    omega
theorem getD_mem {xs : List Int} {k : Nat} (h : k < xs.length) : gd xs k ∈ xs := by
  simp [gd_at h]
theorem take_bd {m : Int} (xs : List Int) (n : Nat) (hm : 0 ≤ m) (hn : xs.length ≤ n) (h : ∀ x ∈ xs, -m ≤ x ∧ x ≤ m) (k : Nat) : -(m * n) ≤ (xs.take k).sum ∧ (xs.take k).sum ≤ m * n := by
  have h1 := sum_bd (xs.take k) fun x hx => h x (List.mem_of_mem_take hx)
  have h2 : m * ((xs.take k).length : Int) ≤ m * n := Int.mul_le_mul_of_nonneg_left (by have := List.length_take_le k xs; have : (xs.take k).length ≤ xs.length := by simp; omega
                                                                                        omega) hm
  omega

set_option maxHeartbeats 400000 in
theorem sum_any (A : Option Addr) (c : Nat) (xs : List Int) (w : World) (hl : xs.length ≤ 64) (hx : ∀ x ∈ xs, 0 ≤ x ∧ x ≤ 1000000) (h : Sl w A xs) :
    Calls Tryz.prog 42 #[.slice A xs.length c] w fun e w' => e = .returned (.int .i64 xs.sum) ∧ w = w' := by
  have HB := Lib.hid (fun k => take_bd (m := 1000000) xs 64 (by omega) hl (fun x h => by have := hx x h; omega) k)
  have HX := Lib.hid (fun k (hk : k < xs.length) => hx _ (getD_mem hk))
  have HS := Lib.hid (sum_step xs)
  have H := Lib.hid h
  clear h hx
  go_enter Tryz.func42, Tryz.ntmps42
  go_wp2
  go_loop [3, 8] (fun t i => ∃ k : Nat, k ≤ xs.length ∧ i = .int .i64 k ∧ t = .int .i64 (xs.take k).sum) (fun _ i => xs.length - (intOf i).toNat)
  case atStart => exact ⟨0, Nat.zero_le _, rfl, rfl⟩
  case round =>
    obtain ⟨k, hk, rfl, rfl⟩ := hrel
    have hb := HB.out k
    by_cases hlt : k < xs.length
    · obtain ⟨b, o, rfl, hc⟩ := H.out k hlt
      have hx := HX.out k hlt
      have HE := Lib.hid (HS.out k hlt)
      go_wp2
      go_round
      case rel => exact ⟨k + 1, by omega, by go_num, by rw [HE.out]⟩
      case measure => simp [intOf]; omega
    · go_wp2
      go_ret
      exact ⟨ret_int (sum_all xs k hlt), rfl⟩

/-- Are these weights? -/
def wts (xs : List Int) : Bool := decide (xs.length ≤ 64) && xs.all (fun x => decide (0 ≤ x) && decide (x ≤ 1000000)) && decide (0 < xs.sum)
theorem wts_iff {xs : List Int} : wts xs = true ↔ xs.length ≤ 64 ∧ (∀ x ∈ xs, 0 ≤ x ∧ x ≤ 1000000) ∧ 0 < xs.sum := by
  unfold wts
  simp only [Bool.and_eq_true, decide_eq_true_eq, List.all_eq_true, and_assoc]
theorem wts_no {xs : List Int} {x : Int} (hx : x ∈ xs) (h : x < 0 ∨ 1000000 < x) : false = wts xs := by
  rw [Eq.comm, ← Bool.not_eq_true, wts_iff]
  rintro ⟨_, h2, _⟩
  have := h2 x hx
  omega

set_option maxHeartbeats 400000 in
theorem wts_any (A : Option Addr) (c : Nat) (xs : List Int) (w : World) (hl : xs.length ≤ 9223372036854775807) (h : Sl w A xs) :
    Calls Tryz.prog 25 #[.slice A xs.length c] w fun e w' => e = .returned (.bool (wts xs)) ∧ w = w' := by
  by_cases h64 : 64 < xs.length
  · go_enter Tryz.func25, Tryz.ntmps25
    go_wp2
    go_ret
    exact ⟨ret_bool (by rw [Eq.comm, ← Bool.not_eq_true, wts_iff]; omega), rfl⟩
  · have H := Lib.hid h
    clear h
    go_enter Tryz.func25, Tryz.ntmps25
    go_wp2
    go_loop [10] (fun i => ∃ k : Nat, k ≤ xs.length ∧ i = .int .i64 k ∧ Hid (∀ j, j < k → 0 ≤ gd xs j ∧ gd xs j ≤ 1000000)) (fun i => xs.length - (intOf i).toNat)
    case atStart => exact ⟨0, Nat.zero_le _, rfl, fun j hj => absurd hj (Nat.not_lt_zero j)⟩
    case round =>
      obtain ⟨k, hk, rfl, HK⟩ := hrel
      by_cases hlt : k < xs.length
      · obtain ⟨b, o, rfl, hc⟩ := H.out k hlt
        have HM := Lib.hid (getD_mem hlt)
        by_cases h0 : gd xs k < 0
        · go_wp2
          go_ret
          exact ⟨ret_bool (wts_no HM.out (.inl h0)), rfl⟩
        · have h0' : decide (gd xs k < 0) = false := by simpa using h0
          by_cases h1 : 1000000 < gd xs k
          · go_wp2
            go_ret
            exact ⟨ret_bool (wts_no HM.out (.inr h1)), rfl⟩
          · go_wp2
            go_round
            case rel => exact ⟨k + 1, by omega, by go_num, fun j hj => by
              by_cases e : j = k
              · subst e; omega
              · exact HK.out j (by omega)⟩
            case measure => simp [intOf]; omega
      · have hx : ∀ x ∈ xs, 0 ≤ x ∧ x ≤ 1000000 := by
          intro x hx
          obtain ⟨j, hj, rfl⟩ := List.getElem_of_mem hx
          have := HK.out j (by omega)
          rwa [gd_at hj] at this
        have HX := Lib.hid hx
        clear hx
        have e : (decide (0 < xs.sum)) = wts xs := by
          rw [Bool.eq_iff_iff, wts_iff, decide_eq_true_eq]
          exact ⟨fun h => ⟨by omega, HX.out, h⟩, fun h => h.2.2⟩
        have HE := Lib.hid e
        clear e
        go_wp2_with (go_at_call 42; refine (sum_any _ _ _ _ (by omega) HX.out H.out).mono ?_; rintro e w' ⟨rfl, rfl⟩)
        go_ret
        exact ⟨ret_bool HE.out, rfl⟩
theorem wts_b (A : Option Addr) (c : Nat) (xs : List Int) (b : Bool) (hb : wts xs = b) (w : World) (hl : xs.length ≤ 9223372036854775807) (h : Sl w A xs) :
    Calls Tryz.prog 25 #[.slice A xs.length c] w fun e w' => e = .returned (.bool b) ∧ w = w' := by
  subst hb; exact wts_any A c xs w hl h

/-- The error of a sum of amounts, and the sum. -/
def addE (xs : List Int) : Int := if xs.all am = true then rsE xs.sum else 1
def addN (xs : List Int) : Int := if xs.all am = true then rsN xs.sum else 0
theorem all_no {xs : List Int} {x : Int} (hx : x ∈ xs) (h : am x = false) : ¬ xs.all am = true := by
  intro ha
  have := List.all_eq_true.1 ha x hx
  rw [h] at this; cases this

set_option maxHeartbeats 400000 in
theorem add_any (A : Option Addr) (c : Nat) (xs : List Int) (w : World) (hl : xs.length ≤ 100) (h : Sl w A xs) :
    Calls Tryz.prog 6 #[.slice A xs.length c] w fun e w' => e = .returned (.tuple #[.int .i64 (addN xs), .int .i64 (addE xs)]) ∧ w = w' := by
  have HS := Lib.hid (sum_step xs)
  have H := Lib.hid h
  clear h
  go_enter Tryz.func6, Tryz.ntmps6
  go_wp2
  go_loop [4, 9] (fun t i => ∃ k : Nat, k ≤ xs.length ∧ i = .int .i64 k ∧ t = .int .i64 (xs.take k).sum ∧ Hid (∀ j, j < k → am (gd xs j) = true)) (fun _ i => xs.length - (intOf i).toNat)
  case atStart => exact ⟨0, Nat.zero_le _, rfl, rfl, fun j hj => absurd hj (Nat.not_lt_zero j)⟩
  case round =>
    obtain ⟨k, hk, rfl, rfl, HK⟩ := hrel
    have hb : -(1000000000 * k) ≤ (xs.take k).sum ∧ (xs.take k).sum ≤ 1000000000 * k := by
      have := sum_bd (m := 1000000000) (xs.take k) fun x hx => by
        obtain ⟨j, hj, rfl⟩ := List.getElem_of_mem hx
        have h1 : j < k := by have := List.length_take_le k xs; omega
        have h2 : j < xs.length := by omega
        have := HK.out j h1
        rw [gd_at h2, am_iff] at this
        simpa using this
      have h2 : (xs.take k).length = k := by simp; omega
      rwa [h2] at this
    by_cases hlt : k < xs.length
    · obtain ⟨b, o, rfl, hc⟩ := H.out k hlt
      have HM := Lib.hid (getD_mem hlt)
      have HE := Lib.hid (HS.out k hlt)
      cases ha : am (gd xs k) with
      | false =>
        have HA := Lib.hid ha
        clear ha
        go_wp2_with (go_at_call 19; refine (valid_amt_b _ false HA.out _).mono ?_; rintro e w' ⟨rfl, rfl⟩)
        go_ret2
        exact ⟨ret_two (by rw [addN, if_neg (all_no HM.out HA.out)]) (by rw [addE, if_neg (all_no HM.out HA.out)]), rfl⟩
      | true =>
        have h1 := am_iff.1 ha
        have HA := Lib.hid ha
        clear ha
        go_wp2_with (go_at_call 19; refine (valid_amt_b _ true HA.out _).mono ?_; rintro e w' ⟨rfl, rfl⟩)
        go_round
        case rel => exact ⟨k + 1, by omega, by go_num, by rw [HE.out], fun j hj => by
              by_cases e : j = k
              · subst e; exact HA.out
              · exact HK.out j (by omega)⟩
        case measure => simp [intOf]; omega
    · have ha : xs.all am = true := by
        rw [List.all_eq_true]
        intro x hx
        obtain ⟨j, hj, rfl⟩ := List.getElem_of_mem hx
        have := HK.out j (by omega)
        rwa [gd_at hj] at this
      have HA := Lib.hid ha
      clear ha
      have he := sum_all xs k hlt
      rw [he] at hb ⊢
      clear he
      go_wp2_with (go_at_call 20; refine (result_any _ _).mono ?_; rintro e w' ⟨rfl, rfl⟩)
      go_ret2
      exact ⟨ret_two (by rw [addN, if_pos HA.out]) (by rw [addE, if_pos HA.out]), rfl⟩
end Go.Proofs.YtanncjkkaeeiaaaGreatDoor
