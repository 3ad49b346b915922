/-
  Public, Sign: of the package and of the reference.
-/
import Derived.Test.YtiapigoknlaihaaDoorSgnD
namespace Go.Proofs.YtiapigoknlaihaaDoor
open Go.RowKit Go.Sort
open Go.RowKit (Below)
set_option linter.unusedVariables false
set_option linter.unusedSimpArgs false

/-- What Public returns. -/
def pubV (x : Int) : Int := if secB x = true then (pwr 4 x.toNat : Nat) else 0
def pubE (x : Int) : Int := if secB x = true then 0 else 1
theorem secB_nat {x : Int} (h : secB x = true) : ∃ m : Nat, x = m ∧ 1 ≤ m ∧ m < 1073741789 := by
  unfold secB at h
  simp at h
  exact ⟨x.toNat, by omega, by omega, by omega⟩
theorem power_4 (x : Nat) (hx : x < 4611686018427387904) (w : World) :
    Calls Tryd.prog 26 #[.int .i64 4, .int .i64 x] w fun e w' => e = .returned (.int .i64 (pwr 4 x : Nat)) ∧ Below w.heap.size w w' := power_any 4 x (by decide) hx w
theorem rpower_4 (x : Nat) (hx : x < 4611686018427387904) (w : World) :
    Calls Tryd.prog 23 #[.int .i64 4, .int .i64 x, .int .i64 2147483579] w fun e w' => e = .returned (.int .i64 (pwr 4 x : Nat)) ∧ w = w' := rpower_any 4 x pp _ (by decide) (by decide) (by decide) hx rfl w

theorem public_is (x V E : Int) (hV : pubV x = V) (hE : pubE x = E) (w : World) :
    Calls Tryd.prog 11 #[.int .i64 x] w fun e w' => e = .returned (.tuple #[.int .i64 V, .int .i64 E]) ∧ Below w.heap.size w w' := by
  unfold pubV at hV; unfold pubE at hE
  by_cases h : secB x = true
  · rw [if_pos h] at hV hE
    have HC := Lib.hid (fun W => isSecret_any x true h W)
    obtain ⟨m, rfl, h1, h2⟩ := secB_nat h
    rw [Int.toNat_natCast] at hV
    subst hV hE
    have HP := Lib.hid (fun W => power_4 m (by omega) W)
    clear h h1 h2
    generalize pwr 4 m = v at *
    go_enter Tryd.func11, Tryd.ntmps11
    go_wp2_with fail
    refine (HC.out _).mono ?_
    rintro e w1 ⟨rfl, rfl⟩
    go_wp2_with fail
    refine (HP.out _).mono ?_
    rintro e w1 ⟨rfl, hB⟩
    go_wp2_with fail
    go_ret2
    exact ⟨rfl, hB⟩
  · rw [if_neg h] at hV hE
    subst hV hE
    have HC := Lib.hid (fun W => isSecret_any x false (by simpa using h) W)
    clear h
    go_enter Tryd.func11, Tryd.ntmps11
    go_wp2_with fail
    refine (HC.out _).mono ?_
    rintro e w1 ⟨rfl, rfl⟩
    go_wp2_with fail
    go_ret2
    exact ⟨rfl, Below.refl _ _⟩
theorem rpublic_is (x V E : Int) (hV : pubV x = V) (hE : pubE x = E) (w : World) :
    Calls Tryd.prog 12 #[.int .i64 x] w fun e w' => e = .returned (.tuple #[.int .i64 V, .int .i64 E]) ∧ w = w' := by
  unfold pubV at hV; unfold pubE at hE
  by_cases h : secB x = true
  · rw [if_pos h] at hV hE
    have HC := Lib.hid (fun W => rsecret_any x true h W)
    obtain ⟨m, rfl, h1, h2⟩ := secB_nat h
    rw [Int.toNat_natCast] at hV
    subst hV hE
    have HP := Lib.hid (fun W => rpower_4 m (by omega) W)
    clear h h1 h2
    generalize pwr 4 m = v at *
    go_enter Tryd.func12, Tryd.ntmps12
    go_wp2_with fail
    refine (HC.out _).mono ?_
    rintro e w1 ⟨rfl, rfl⟩
    go_wp2_with fail
    refine (HP.out _).mono ?_
    rintro e w1 ⟨rfl, rfl⟩
    go_wp2_with fail
    go_ret2
    exact ⟨rfl, rfl⟩
  · rw [if_neg h] at hV hE
    subst hV hE
    have HC := Lib.hid (fun W => rsecret_any x false (by simpa using h) W)
    clear h
    go_enter Tryd.func12, Tryd.ntmps12
    go_wp2_with fail
    refine (HC.out _).mono ?_
    rintro e w1 ⟨rfl, rfl⟩
    go_wp2_with fail
    go_ret2
    exact ⟨rfl, rfl⟩

/-- What Sign returns: E, S and the error. -/
def sgnE (x o : Int) (msg : List Int) : Int := if secB x = true ∧ secB o = true then (if msg.length ≤ 32 then 0 else 2) else 1
def sgnC (x o : Int) (msg : List Int) : Int := if sgnE x o msg = 0 then chV (pwr 4 o.toNat : Nat) (pwr 4 x.toNat : Nat) msg else 0
def sgnS (x o : Int) (msg : List Int) : Int := if sgnE x o msg = 0 then (o + sgnC x o msg * x) % 1073741789 else 0
theorem pwr_i64 (b x : Nat) : I64 (pwr b x : Nat) := by have := pwr_lt b x; constructor <;> omega
/-- A result in a variable of the call's own. -/
theorem lc_new (w : World) (a b : Int) (t : TypeId) : Lc (w.alloc (.cells #[.int .i64 a, .int .i64 b] t)) w.heap.size a b := Lc.here w a b t

set_option maxRecDepth 100000 in
set_option maxHeartbeats 2000000 in
theorem sign_is (x o : Int) (A : Option Addr) (C : Nat) (msg : List Int) (E S e : Int) (he : sgnE x o msg = e) (hE : sgnC x o msg = E) (hS : sgnS x o msg = S) (w : World) (hs : St w) (hl : msg.length ≤ 9223372036854775807) (hi : ∀ x ∈ msg, I64 x) (h : Sk .i64 w A msg) :
    Calls Tryd.prog 13 #[.int .i64 x, .int .i64 o, .slice A msg.length C] w fun e' w' => e' = .returned (.tuple #[.agg #[.int .i64 E, .int .i64 S], .int .i64 e]) ∧ Below w.heap.size w w' := by
  have HB0 : Below w.heap.size w (w.alloc (.cells #[.int .i64 0, .int .i64 0] 23)) := (Below.refl _ _).alloc (Nat.le_refl _) _
  have HL0 := Lc.here w 0 0 23
  have HS := Lib.hid (hs.on HB0)
  clear hs
  have H := Lib.hid (h.below HB0)
  have HI := Lib.hid hi
  clear h hi
  by_cases hx : secB x = true
  case neg =>
    have e1 : sgnE x o msg = 1 := by unfold sgnE; rw [if_neg (fun hh => hx hh.1)]
    unfold sgnS at hS; unfold sgnC at hS hE
    rw [e1] at he hE hS
    rw [if_neg (by decide)] at hE hS
    subst he hE hS
    have HC := Lib.hid (fun W => isSecret_any x false (by simpa using hx) W)
    clear hx e1
    go_enter Tryd.func13, Tryd.ntmps13
    go_wp2_with fail
    refine (HC.out _).mono ?_
    rintro e w1 ⟨rfl, rfl⟩
    obtain ⟨⟨r0, r1⟩, f0, f1⟩ := HL0
    generalize w.alloc (.cells #[.int .i64 0, .int .i64 0] 23) = w1 at *
    go_wp2_with fail
    exact bodyPost_ret (v := .tuple #[.agg #[.int .i64 0, .int .i64 0], .int .i64 1]) (by simp [results, Tryd.results13, go_sem, r0, r1]) rfl ⟨rfl, (HB0.setCell (Nat.le_refl _) _).setCell (Nat.le_refl _) _⟩
  by_cases ho : secB o = true
  case neg =>
    have e1 : sgnE x o msg = 1 := by unfold sgnE; rw [if_neg (fun hh => ho hh.2)]
    unfold sgnS at hS; unfold sgnC at hS hE
    rw [e1] at he hE hS
    rw [if_neg (by decide)] at hE hS
    subst he hE hS
    have HC := Lib.hid (fun W => isSecret_any x true hx W)
    have HD := Lib.hid (fun W => isSecret_any o false (by simpa using ho) W)
    clear hx ho e1
    go_enter Tryd.func13, Tryd.ntmps13
    go_wp2_with fail
    refine (HC.out _).mono ?_
    rintro e w1 ⟨rfl, rfl⟩
    go_wp2_with fail
    refine (HD.out _).mono ?_
    rintro e w1 ⟨rfl, rfl⟩
    obtain ⟨⟨r0, r1⟩, f0, f1⟩ := HL0
    generalize w.alloc (.cells #[.int .i64 0, .int .i64 0] 23) = w1 at *
    go_wp2_with fail
    exact bodyPost_ret (v := .tuple #[.agg #[.int .i64 0, .int .i64 0], .int .i64 1]) (by simp [results, Tryd.results13, go_sem, r0, r1]) rfl ⟨rfl, (HB0.setCell (Nat.le_refl _) _).setCell (Nat.le_refl _) _⟩
  by_cases hm : msg.length ≤ 32
  case neg =>
    have e1 : sgnE x o msg = 2 := by unfold sgnE; rw [if_pos ⟨hx, ho⟩, if_neg hm]
    unfold sgnS at hS; unfold sgnC at hS hE
    rw [e1] at he hE hS
    rw [if_neg (by decide)] at hE hS
    subst he hE hS
    have HC := Lib.hid (fun W => isSecret_any x true hx W)
    have HD := Lib.hid (fun W => isSecret_any o true ho W)
    have hm2 : (32 : Int) < msg.length := by omega
    clear hx ho e1 hm
    go_enter Tryd.func13, Tryd.ntmps13
    go_wp2_with fail
    refine (HC.out _).mono ?_
    rintro e w1 ⟨rfl, rfl⟩
    go_wp2_with fail
    refine (HD.out _).mono ?_
    rintro e w1 ⟨rfl, rfl⟩
    obtain ⟨⟨r0, r1⟩, f0, f1⟩ := HL0
    generalize w.alloc (.cells #[.int .i64 0, .int .i64 0] 23) = w1 at *
    go_wp2_with fail
    exact bodyPost_ret (v := .tuple #[.agg #[.int .i64 0, .int .i64 0], .int .i64 2]) (by simp [results, Tryd.results13, go_sem, r0, r1]) rfl ⟨rfl, (HB0.setCell (Nat.le_refl _) _).setCell (Nat.le_refl _) _⟩
  case pos =>
    have e1 : sgnE x o msg = 0 := by unfold sgnE; rw [if_pos ⟨hx, ho⟩, if_pos hm]
    unfold sgnS at hS
    rw [if_pos e1, hE] at hS
    unfold sgnC at hE
    rw [e1] at he
    rw [if_pos e1] at hE
    subst he
    have HC := Lib.hid (fun W => isSecret_any x true hx W)
    have HD := Lib.hid (fun W => isSecret_any o true ho W)
    obtain ⟨X, rfl, x1, x2⟩ := secB_nat hx
    obtain ⟨O, rfl, o1, o2⟩ := secB_nat ho
    rw [Int.toNat_natCast, Int.toNat_natCast] at hE
    have HP := Lib.hid (fun W => power_4 O (by omega) W)
    have HQ := Lib.hid (fun W => power_4 X (by omega) W)
    have i1 := pwr_i64 4 O
    have i2 := pwr_i64 4 X
    obtain ⟨c1, c2⟩ := hE ▸ chV_bd (pwr 4 O : Nat) (pwr 4 X : Nat) msg
    generalize pwr 4 O = v1 at *
    generalize pwr 4 X = v2 at *
    have p1 : 0 ≤ E * (X : Int) := Int.mul_nonneg c1 (by omega)
    have p2 : E * (X : Int) ≤ 1073741788 * 1073741788 := Int.mul_le_mul (by omega) (by omega) (by omega) (by omega)
    have g1 : IntKind.i64.wrap (E * (X : Int)) = E * X := IntWalk.i64_in _ ⟨by omega, by omega⟩
    have g2 : IntKind.i64.wrap ((O : Int) + E * X) = O + E * X := IntWalk.i64_in _ ⟨by omega, by omega⟩
    have g3 : ((O : Int) + E * X).tmod 1073741789 = S := by rw [Int.tmod_eq_emod_of_nonneg (by omega)]; exact hS
    have HH := Lib.hid hE
    have HT := Lib.hid i1
    have HU := Lib.hid i2
    have hm2 : ¬ ((32 : Int) < msg.length) := by omega
    have hm3 : decide ((32 : Int) < msg.length) = false := by simpa using hm2
    have HM := Lib.hid hm
    have hlt : w.heap.size < (w.alloc (.cells #[.int .i64 0, .int .i64 0] 23)).heap.size := by simp
    clear hx ho e1 hm hS hE i1 i2 p1 p2 x1 x2 o1 o2
    go_enter Tryd.func13, Tryd.ntmps13
    go_wp2_with fail
    refine (HC.out _).mono ?_
    rintro e w1 ⟨rfl, rfl⟩
    go_wp2_with fail
    refine (HD.out _).mono ?_
    rintro e w1 ⟨rfl, rfl⟩
    generalize w.alloc (.cells #[.int .i64 0, .int .i64 0] 23) = w1 at *
    go_wp2_with fail
    refine (HP.out _).mono ?_
    rintro e w2 ⟨rfl, hb⟩
    replace HB0 := on_below HB0 hb
    replace HL0 := HL0.on hb
    replace HS := Lib.hid (HS.out.on hb)
    replace H := Lib.hid (H.out.below hb)
    clear hb hlt
    go_wp2_with fail
    refine (HQ.out _).mono ?_
    rintro e w3 ⟨rfl, hb⟩
    replace HB0 := on_below HB0 hb
    replace HL0 := HL0.on hb
    replace HS := Lib.hid (HS.out.on hb)
    replace H := Lib.hid (H.out.below hb)
    clear hb
    go_wp2_with fail
    refine (challenge_any _ _ HT.out HU.out _ _ _ _ HH.out _ HS.out (by have := HM.out; omega) HI.out H.out).mono ?_
    rintro e w4 ⟨rfl, hb⟩
    have HB := on_below HB0 hb
    obtain ⟨⟨r0, r1⟩, f0, f1⟩ := HL0.on hb
    clear HL0 HB0 hb
    go_wp2_with fail
    exact bodyPost_ret (v := .tuple #[.agg #[.int .i64 E, .int .i64 S], .int .i64 0]) (by simp [results, Tryd.results13, go_sem, r0, r1]) rfl ⟨rfl, (HB.setCell (Nat.le_refl _) _).setCell (Nat.le_refl _) _⟩

set_option maxRecDepth 100000 in
set_option maxHeartbeats 2000000 in
theorem rsign_is (x o : Int) (A : Option Addr) (C : Nat) (msg : List Int) (E S e : Int) (he : sgnE x o msg = e) (hE : sgnC x o msg = E) (hS : sgnS x o msg = S) (w : World) (hl : msg.length ≤ 9223372036854775807) (hi : ∀ x ∈ msg, I64 x) (h : Sk .i64 w A msg) :
    Calls Tryd.prog 14 #[.int .i64 x, .int .i64 o, .slice A msg.length C] w fun e' w' => e' = .returned (.tuple #[.agg #[.int .i64 E, .int .i64 S], .int .i64 e]) ∧ Below w.heap.size w w' := by
  have HB0 : Below w.heap.size w (w.alloc (.cells #[.int .i64 0, .int .i64 0] 23)) := (Below.refl _ _).alloc (Nat.le_refl _) _
  have HL0 := Lc.here w 0 0 23
  have H := Lib.hid (h.below HB0)
  have HI := Lib.hid hi
  clear h hi
  by_cases hx : secB x = true
  case neg =>
    have e1 : sgnE x o msg = 1 := by unfold sgnE; rw [if_neg (fun hh => hx hh.1)]
    unfold sgnS at hS; unfold sgnC at hS hE
    rw [e1] at he hE hS
    rw [if_neg (by decide)] at hE hS
    subst he hE hS
    have HC := Lib.hid (fun W => rsecret_any x false (by simpa using hx) W)
    have HD := Lib.hid (fun W => rsecret_any o (secB o) rfl W)
    generalize secB o = b2 at *
    clear hx e1
    go_enter Tryd.func14, Tryd.ntmps14
    go_wp2_with fail
    refine (HC.out _).mono ?_
    rintro e w1 ⟨rfl, rfl⟩
    go_wp2_with fail
    refine (HD.out _).mono ?_
    rintro e w1 ⟨rfl, rfl⟩
    obtain ⟨⟨r0, r1⟩, f0, f1⟩ := HL0
    generalize w.alloc (.cells #[.int .i64 0, .int .i64 0] 23) = w1 at *
    go_wp2_with fail
    exact bodyPost_ret (v := .tuple #[.agg #[.int .i64 0, .int .i64 0], .int .i64 1]) (by simp [results, Tryd.results14, go_sem, r0, r1]) rfl ⟨rfl, (HB0.setCell (Nat.le_refl _) _).setCell (Nat.le_refl _) _⟩
  by_cases ho : secB o = true
  case neg =>
    have e1 : sgnE x o msg = 1 := by unfold sgnE; rw [if_neg (fun hh => ho hh.2)]
    unfold sgnS at hS; unfold sgnC at hS hE
    rw [e1] at he hE hS
    rw [if_neg (by decide)] at hE hS
    subst he hE hS
    have HC := Lib.hid (fun W => rsecret_any x true hx W)
    have HD := Lib.hid (fun W => rsecret_any o false (by simpa using ho) W)
    clear hx ho e1
    go_enter Tryd.func14, Tryd.ntmps14
    go_wp2_with fail
    refine (HC.out _).mono ?_
    rintro e w1 ⟨rfl, rfl⟩
    go_wp2_with fail
    refine (HD.out _).mono ?_
    rintro e w1 ⟨rfl, rfl⟩
    obtain ⟨⟨r0, r1⟩, f0, f1⟩ := HL0
    generalize w.alloc (.cells #[.int .i64 0, .int .i64 0] 23) = w1 at *
    go_wp2_with fail
    exact bodyPost_ret (v := .tuple #[.agg #[.int .i64 0, .int .i64 0], .int .i64 1]) (by simp [results, Tryd.results14, go_sem, r0, r1]) rfl ⟨rfl, (HB0.setCell (Nat.le_refl _) _).setCell (Nat.le_refl _) _⟩
  by_cases hm : msg.length ≤ 32
  case neg =>
    have e1 : sgnE x o msg = 2 := by unfold sgnE; rw [if_pos ⟨hx, ho⟩, if_neg hm]
    unfold sgnS at hS; unfold sgnC at hS hE
    rw [e1] at he hE hS
    rw [if_neg (by decide)] at hE hS
    subst he hE hS
    have HC := Lib.hid (fun W => rsecret_any x true hx W)
    have HD := Lib.hid (fun W => rsecret_any o true ho W)
    have hm2 : (32 : Int) < msg.length := by omega
    clear hx ho e1 hm
    go_enter Tryd.func14, Tryd.ntmps14
    go_wp2_with fail
    refine (HC.out _).mono ?_
    rintro e w1 ⟨rfl, rfl⟩
    go_wp2_with fail
    refine (HD.out _).mono ?_
    rintro e w1 ⟨rfl, rfl⟩
    obtain ⟨⟨r0, r1⟩, f0, f1⟩ := HL0
    generalize w.alloc (.cells #[.int .i64 0, .int .i64 0] 23) = w1 at *
    go_wp2_with fail
    exact bodyPost_ret (v := .tuple #[.agg #[.int .i64 0, .int .i64 0], .int .i64 2]) (by simp [results, Tryd.results14, go_sem, r0, r1]) rfl ⟨rfl, (HB0.setCell (Nat.le_refl _) _).setCell (Nat.le_refl _) _⟩
  case pos =>
    have e1 : sgnE x o msg = 0 := by unfold sgnE; rw [if_pos ⟨hx, ho⟩, if_pos hm]
    unfold sgnS at hS
    rw [if_pos e1, hE] at hS
    unfold sgnC at hE
    rw [e1] at he
    rw [if_pos e1] at hE
    subst he
    have HC := Lib.hid (fun W => rsecret_any x true hx W)
    have HD := Lib.hid (fun W => rsecret_any o true ho W)
    obtain ⟨X, rfl, x1, x2⟩ := secB_nat hx
    obtain ⟨O, rfl, o1, o2⟩ := secB_nat ho
    rw [Int.toNat_natCast, Int.toNat_natCast] at hE
    have HP := Lib.hid (fun W => rpower_4 O (by omega) W)
    have HQ := Lib.hid (fun W => rpower_4 X (by omega) W)
    have i1 := pwr_i64 4 O
    have i2 := pwr_i64 4 X
    obtain ⟨c1, c2⟩ := hE ▸ chV_bd (pwr 4 O : Nat) (pwr 4 X : Nat) msg
    generalize pwr 4 O = v1 at *
    generalize pwr 4 X = v2 at *
    have p1 : 0 ≤ E * (X : Int) := Int.mul_nonneg c1 (by omega)
    have p2 : E * (X : Int) ≤ 1073741788 * 1073741788 := Int.mul_le_mul (by omega) (by omega) (by omega) (by omega)
    have g1 : IntKind.i64.wrap (E * (X : Int)) = E * X := IntWalk.i64_in _ ⟨by omega, by omega⟩
    have g2 : IntKind.i64.wrap ((O : Int) + E * X) = O + E * X := IntWalk.i64_in _ ⟨by omega, by omega⟩
    have g3 : ((O : Int) + E * X).tmod 1073741789 = S := by rw [Int.tmod_eq_emod_of_nonneg (by omega)]; exact hS
    have HH := Lib.hid hE
    have HT := Lib.hid i1
    have HU := Lib.hid i2
    have hm2 : ¬ ((32 : Int) < msg.length) := by omega
    have hm3 : decide ((32 : Int) < msg.length) = false := by simpa using hm2
    have HM := Lib.hid hm
    have hlt : w.heap.size < (w.alloc (.cells #[.int .i64 0, .int .i64 0] 23)).heap.size := by simp
    clear hx ho e1 hm hS hE i1 i2 p1 p2 x1 x2 o1 o2
    go_enter Tryd.func14, Tryd.ntmps14
    go_wp2_with fail
    refine (HC.out _).mono ?_
    rintro e w1 ⟨rfl, rfl⟩
    go_wp2_with fail
    refine (HD.out _).mono ?_
    rintro e w1 ⟨rfl, rfl⟩
    generalize w.alloc (.cells #[.int .i64 0, .int .i64 0] 23) = w1 at *
    go_wp2_with fail
    refine (HP.out _).mono ?_
    rintro e w1 ⟨rfl, rfl⟩
    go_wp2_with fail
    refine (HQ.out _).mono ?_
    rintro e w1 ⟨rfl, rfl⟩
    go_wp2_with fail
    refine (rchallenge_any _ _ HT.out HU.out _ _ _ _ HH.out _ (by have := HM.out; omega) HI.out H.out).mono ?_
    rintro e w2 ⟨rfl, hb⟩
    have HB := on_below HB0 hb
    obtain ⟨⟨r0, r1⟩, f0, f1⟩ := HL0.on hb
    clear HL0 HB0 hb
    go_wp2_with fail
    exact bodyPost_ret (v := .tuple #[.agg #[.int .i64 E, .int .i64 S], .int .i64 0]) (by simp [results, Tryd.results14, go_sem, r0, r1]) rfl ⟨rfl, (HB.setCell (Nat.le_refl _) _).setCell (Nat.le_refl _) _⟩
end Go.Proofs.YtiapigoknlaihaaDoor
