/-
  Back, Verify: of the package and of the reference.
-/
import Derived.Test.YtiapigoknlaihaaDoorSgnE
namespace Go.Proofs.YtiapigoknlaihaaDoor
open Go.RowKit Go.Sort
open Go.RowKit (Below)
set_option linter.unusedVariables false
set_option linter.unusedSimpArgs false

theorem keepc {w w' : World} {g k : Nat} {v : Value} (hb : Below w.heap.size w w') (h : w.cell? ⟨g, k, none⟩ = some v) : w'.cell? ⟨g, k, none⟩ = some v := by rw [hb.cell (block_lt h)]; exact h
/-- What the signer began with. -/
def bakN (b e s : Nat) : Nat := pwr 4 s * pwr b ((1073741789 - e) % 1073741789) % 2147483579
theorem bakN_lt (b e s : Nat) : bakN b e s < 2147483579 := Nat.mod_lt _ (by decide)
theorem bak_i64 (b e s : Nat) : I64 (bakN b e s : Nat) := by have := bakN_lt b e s; constructor <;> omega
/-- The facts of the arithmetic. -/
structure BK (b e s M v1 v2 B : Nat) : Prop where
  hM : (1073741789 - (e : Int)).tmod 1073741789 = M
  w0 : IntKind.i64.wrap (1073741789 - (e : Int)) = 1073741789 - e
  h1 : pwr 4 s = v1
  h2 : pwr b M = v2
  hB : ((v1 : Int) * v2).tmod 2147483579 = B
  w1 : IntKind.i64.wrap ((v1 : Int) * v2) = (v1 : Int) * v2
  lM : M < 1073741789
  isB : bakN b e s = B
theorem bk (b e s : Nat) (he : e < 1073741789) : ∃ M v1 v2 B, BK b e s M v1 v2 B := by
  have l1 := pwr_lt 4 s
  have l2 := pwr_lt b ((1073741789 - e) % 1073741789)
  refine ⟨(1073741789 - e) % 1073741789, _, _, _, ?_, ?_, rfl, rfl, ?_, ?_, Nat.mod_lt _ (by decide), rfl⟩
  · rw [Int.tmod_eq_emod_of_nonneg (by omega)]; omega
  · exact IntWalk.i64_in _ ⟨by omega, by omega⟩
  · exact cast_mod (m := 2147483579) rfl
  · obtain ⟨q1, q2⟩ := cast_bd l1 l2 (by omega)
    exact IntWalk.i64_in _ ⟨by omega, by omega⟩

theorem power_p (b x v : Nat) (hb : b < 2147483579) (hx : x < 4611686018427387904) (hv : pwr b x = v) (w : World) :
    Calls Tryd.prog 26 #[.int .i64 b, .int .i64 x] w fun e w' => e = .returned (.int .i64 (v : Nat)) ∧ Below w.heap.size w w' := by subst hv; exact power_any b x hb hx w
theorem power_4p (x v : Nat) (hx : x < 4611686018427387904) (hv : pwr 4 x = v) (w : World) :
    Calls Tryd.prog 26 #[.int .i64 4, .int .i64 x] w fun e w' => e = .returned (.int .i64 (v : Nat)) ∧ Below w.heap.size w w' := by subst hv; exact power_4 x hx w
theorem rpower_p (b x v : Nat) (hb : b < 2147483579) (hx : x < 4611686018427387904) (hv : pwr b x = v) (w : World) :
    Calls Tryd.prog 23 #[.int .i64 b, .int .i64 x, .int .i64 2147483579] w fun e w' => e = .returned (.int .i64 (v : Nat)) ∧ w = w' := by subst hv; exact rpower_any b x pp _ hb (by decide) (by decide) hx rfl w
theorem rpower_4p (x v : Nat) (hx : x < 4611686018427387904) (hv : pwr 4 x = v) (w : World) :
    Calls Tryd.prog 23 #[.int .i64 4, .int .i64 x, .int .i64 2147483579] w fun e w' => e = .returned (.int .i64 (v : Nat)) ∧ w = w' := by subst hv; exact rpower_4 x hx w

set_option maxRecDepth 100000 in
set_option maxHeartbeats 2000000 in
theorem back_any (b e s : Nat) (hb : b < 2147483579) (he : e < 1073741789) (hs : s < 1073741789) (w : World) :
    Calls Tryd.prog 22 #[.int .i64 b, .agg #[.int .i64 e, .int .i64 s]] w fun e' w' => e' = .returned (.int .i64 (bakN b e s : Nat)) ∧ Below w.heap.size w w' := by
  obtain ⟨M, v1, v2, B, hM, w0, h1, h2, hB, w1, lM, isB⟩ := bk b e s he
  have HP := Lib.hid (fun W => rpower_4p s v1 (by omega) h1 W)
  have HQ := Lib.hid (fun W => rpower_p b M v2 hb (by omega) h2 W)
  rw [isB]
  have p0 : World.cell? (w.alloc (.cells #[.int .i64 e, .int .i64 s] 23)) ⟨w.heap.size, 0, none⟩ = some (.int .i64 e) := by simp [go_sem]
  have p1 : World.cell? (w.alloc (.cells #[.int .i64 e, .int .i64 s] 23)) ⟨w.heap.size, 1, none⟩ = some (.int .i64 s) := by simp [go_sem]
  have B0 : Below w.heap.size w (w.alloc (.cells #[.int .i64 e, .int .i64 s] 23)) := (Below.refl _ _).alloc (Nat.le_refl _) _
  clear h1 h2 isB lM he hs hb
  go_enter Tryd.func22, Tryd.ntmps22
  go_wp2_with fail
  generalize w.alloc (.cells #[.int .i64 e, .int .i64 s] 23) = V at *
  go_region_held3 (fun W => W.cell? ⟨w.heap.size, 0, none⟩ = some (.int .i64 e) ∧ W.cell? ⟨w.heap.size, 1, none⟩ = some (.int .i64 s) ∧ Below w.heap.size w W)
    (first | assumption | exact ⟨p0, p1, B0.drew⟩ | (go_split_ands; exact ⟨by assumption, by assumption, by assumption⟩))
    (first | (go_at_call 23; (with_reducible refine (HP.out _).mono ?_); rintro e' w1 ⟨rfl, rfl⟩) | (go_at_call 23; (with_reducible refine (HQ.out _).mono ?_); rintro e' w1 ⟨rfl, rfl⟩))
  go_split_ands
  go_wp2
  go_ret
  exact ⟨rfl, by assumption⟩

/-- An equality of two signatures. -/
theorem sig_eq {a b c d : Int} {r : Bool} (h : (decide (a = c) && decide (b = d)) = r) (w : World) : (binOp .eql 23 (.agg #[.int .i64 a, .int .i64 b]) (.agg #[.int .i64 c, .int .i64 d])).run Tryd.prog w = .ok (.bool r) w := by
  subst h
  by_cases h1 : a = c
  · by_cases h2 : b = d
    · subst h1 h2; simp [go_sem]
    · simp [go_sem, h1, h2]
  · simp [go_sem, h1]
theorem beq_flip {a b : Int} {r : Bool} (h : decide (a = b) = r) : (b == a) = r := by
  subst h
  by_cases e : a = b
  · subst e; rw [beq_self_eq_true, decide_eq_true rfl]
  · rw [decide_eq_false e, beq_eq_false_iff_ne]; exact fun h => e h.symm
theorem new_kept {w w3 : World} {a b : Int} {t : TypeId} (hb : Below (w.alloc (.cells #[.int .i64 a, .int .i64 b] t)).drew.heap.size (w.alloc (.cells #[.int .i64 a, .int .i64 b] t)).drew w3) : Lc w3 w.heap.size a b :=
  (Lc.here w a b t).on (undrew_b hb)
theorem fin_a {w w2 w3 : World} {o : Obj} (B0 : Below w.heap.size w w2) (h : Below w2.drew.heap.size w2.drew w3) : Below w.heap.size w (w3.alloc o) := by
  have hB := on_below B0 (undrew_b h)
  exact hB.alloc hB.size _
theorem fin_b {w w2 w3 : World} {o : Obj} {v1 v2 : Value} (B0 : Below w.heap.size w w2) (h : Below (w2.alloc o).drew.heap.size (w2.alloc o).drew w3) : Below w.heap.size w ((w3.setCell ⟨w2.heap.size, 0, none⟩ v1).setCell ⟨w2.heap.size, 1, none⟩ v2) :=
  ((on_below (B0.alloc B0.size _) (undrew_b h)).setCell B0.size _).setCell B0.size _
/-- What Verify returns: the answer and the error. -/
def vfE (p E S : Int) (msg : List Int) : Int := if eltB p = true ∧ expB E = true ∧ expB S = true then (if msg.length ≤ 32 then 0 else 2) else 1
def vfB (p E S : Int) (msg : List Int) : Bool := if vfE p E S msg = 0 then decide (E = chV (bakN p.toNat E.toNat S.toNat : Nat) p msg) else false
theorem eltB_nat {x : Int} (h : eltB x = true) : ∃ m : Nat, x = m ∧ 1 ≤ m ∧ m < 2147483579 := by
  unfold eltB at h
  simp at h
  exact ⟨x.toNat, by omega, by omega, by omega⟩
theorem expB_nat {x : Int} (h : expB x = true) : ∃ m : Nat, x = m ∧ m < 1073741789 := by
  unfold expB at h
  simp at h
  exact ⟨x.toNat, by omega, by omega⟩

set_option maxRecDepth 100000 in
set_option maxHeartbeats 4000000 in
theorem verify_is (p E S : Int) (A : Option Addr) (C : Nat) (msg : List Int) (r : Bool) (e : Int) (he : vfE p E S msg = e) (hr : vfB p E S msg = r) (w : World) (hs : St w) (hl : msg.length ≤ 9223372036854775807) (hi : ∀ x ∈ msg, I64 x) (h : Sk .i64 w A msg) :
    Calls Tryd.prog 15 #[.int .i64 p, .agg #[.int .i64 E, .int .i64 S], .slice A msg.length C] w fun e' w' => e' = .returned (.tuple #[.bool r, .int .i64 e]) ∧ Below w.heap.size w w' := by
  have B0 : Below w.heap.size w (w.alloc (.cells #[.int .i64 E, .int .i64 S] 23)) := (Below.refl _ _).alloc (Nat.le_refl _) _
  have p0 : World.cell? (w.alloc (.cells #[.int .i64 E, .int .i64 S] 23)) ⟨w.heap.size, 0, none⟩ = some (.int .i64 E) := by simp [go_sem]
  have p1 : World.cell? (w.alloc (.cells #[.int .i64 E, .int .i64 S] 23)) ⟨w.heap.size, 1, none⟩ = some (.int .i64 S) := by simp [go_sem]
  have HS := Lib.hid (hs.on B0)
  clear hs
  have H := Lib.hid (h.below B0)
  have HI := Lib.hid hi
  clear h hi
  by_cases hp : eltB p = true
  case neg =>
    have e1 : vfE p E S msg = 1 := by unfold vfE; rw [if_neg (fun hh => hp hh.1)]
    unfold vfB at hr
    rw [e1] at he hr
    rw [if_neg (by decide)] at hr
    subst he hr
    have HC := Lib.hid (fun W => isElement_any p false (by simpa using hp) W)
    clear hp e1
    go_enter Tryd.func15, Tryd.ntmps15
    go_wp2_with fail
    generalize w.alloc (.cells #[.int .i64 E, .int .i64 S] 23) = V at *
    refine (HC.out _).mono ?_
    rintro e w1 ⟨rfl, hb⟩
    replace B0 := on_below B0 hb
    replace p0 := keepc hb p0
    replace p1 := keepc hb p1
    replace HS := Lib.hid (HS.out.on hb)
    replace H := Lib.hid (H.out.below hb)
    clear hb
    go_wp2_with fail
    go_ret2
    exact ⟨rfl, B0⟩
  by_cases hE : expB E = true
  case neg =>
    have e1 : vfE p E S msg = 1 := by unfold vfE; rw [if_neg (fun hh => hE hh.2.1)]
    unfold vfB at hr
    rw [e1] at he hr
    rw [if_neg (by decide)] at hr
    subst he hr
    have HC := Lib.hid (fun W => isElement_any p true hp W)
    have HD := Lib.hid (fun W => isExponent_any E false (by simpa using hE) W)
    clear hp hE e1
    go_enter Tryd.func15, Tryd.ntmps15
    go_wp2_with fail
    generalize w.alloc (.cells #[.int .i64 E, .int .i64 S] 23) = V at *
    refine (HC.out _).mono ?_
    rintro e w1 ⟨rfl, hb⟩
    replace B0 := on_below B0 hb
    replace p0 := keepc hb p0
    replace p1 := keepc hb p1
    replace HS := Lib.hid (HS.out.on hb)
    replace H := Lib.hid (H.out.below hb)
    clear hb
    go_wp2_with fail
    refine (HD.out _).mono ?_
    rintro e wq ⟨rfl, hw⟩
    subst hw
    go_wp2_with fail
    go_ret2
    exact ⟨rfl, B0⟩
  by_cases hS : expB S = true
  case neg =>
    have e1 : vfE p E S msg = 1 := by unfold vfE; rw [if_neg (fun hh => hS hh.2.2)]
    unfold vfB at hr
    rw [e1] at he hr
    rw [if_neg (by decide)] at hr
    subst he hr
    have HC := Lib.hid (fun W => isElement_any p true hp W)
    have HD := Lib.hid (fun W => isExponent_any E true hE W)
    have HF := Lib.hid (fun W => isExponent_any S false (by simpa using hS) W)
    clear hp hE hS e1
    go_enter Tryd.func15, Tryd.ntmps15
    go_wp2_with fail
    generalize w.alloc (.cells #[.int .i64 E, .int .i64 S] 23) = V at *
    refine (HC.out _).mono ?_
    rintro e w1 ⟨rfl, hb⟩
    replace B0 := on_below B0 hb
    replace p0 := keepc hb p0
    replace p1 := keepc hb p1
    replace HS := Lib.hid (HS.out.on hb)
    replace H := Lib.hid (H.out.below hb)
    clear hb
    go_wp2_with fail
    refine (HD.out _).mono ?_
    rintro e wq ⟨rfl, hw⟩
    subst hw
    go_wp2_with fail
    refine (HF.out _).mono ?_
    rintro e wq ⟨rfl, hw⟩
    subst hw
    go_wp2_with fail
    go_ret2
    exact ⟨rfl, B0⟩
  by_cases hm : msg.length ≤ 32
  case neg =>
    have e1 : vfE p E S msg = 2 := by unfold vfE; rw [if_pos ⟨hp, hE, hS⟩, if_neg hm]
    unfold vfB at hr
    rw [e1] at he hr
    rw [if_neg (by decide)] at hr
    subst he hr
    have HC := Lib.hid (fun W => isElement_any p true hp W)
    have HD := Lib.hid (fun W => isExponent_any E true hE W)
    have HF := Lib.hid (fun W => isExponent_any S true hS W)
    have hm2 : (32 : Int) < msg.length := by omega
    clear hp hE hS e1 hm
    go_enter Tryd.func15, Tryd.ntmps15
    go_wp2_with fail
    generalize w.alloc (.cells #[.int .i64 E, .int .i64 S] 23) = V at *
    refine (HC.out _).mono ?_
    rintro e w1 ⟨rfl, hb⟩
    replace B0 := on_below B0 hb
    replace p0 := keepc hb p0
    replace p1 := keepc hb p1
    replace HS := Lib.hid (HS.out.on hb)
    replace H := Lib.hid (H.out.below hb)
    clear hb
    go_wp2_with fail
    refine (HD.out _).mono ?_
    rintro e wq ⟨rfl, hw⟩
    subst hw
    go_wp2_with fail
    refine (HF.out _).mono ?_
    rintro e wq ⟨rfl, hw⟩
    subst hw
    go_wp2_with fail
    go_ret2
    exact ⟨rfl, B0⟩
  case pos =>
    have e1 : vfE p E S msg = 0 := by unfold vfE; rw [if_pos ⟨hp, hE, hS⟩, if_pos hm]
    unfold vfB at hr
    rw [if_pos e1] at hr
    rw [e1] at he
    subst he
    have HC := Lib.hid (fun W => isElement_any p true hp W)
    have HD := Lib.hid (fun W => isExponent_any E true hE W)
    have HF := Lib.hid (fun W => isExponent_any S true hS W)
    obtain ⟨b, rfl, b1, b2⟩ := eltB_nat hp
    obtain ⟨E, rfl, l1⟩ := expB_nat hE
    obtain ⟨S, rfl, l2⟩ := expB_nat hS
    have HT := Lib.hid (bak_i64 b E S)
    have HU := Lib.hid (show I64 (b : Int) from ⟨by omega, by omega⟩)
    have HM := Lib.hid hm
    have hm3 : decide ((32 : Int) < msg.length) = false := by rw [decide_eq_false_iff_not]; omega
    obtain ⟨cv, hcv⟩ : ∃ v, chV (bakN b E S : Nat) b msg = v := ⟨_, rfl⟩
    replace hr : decide ((E : Int) = cv) = r := by rw [← hr]; exact decide_eq_decide.2 (by simp only [Int.toNat_natCast, hcv])
    have HH := Lib.hid hcv
    clear hcv hp hE hS e1 hm
    obtain ⟨M, v1, v2, B, hM, z0, h1, h2, hB, z1, lM, isB⟩ := bk b E S l1
    rw [isB] at HH HT
    have HP := Lib.hid (fun W => power_4p S v1 (by omega) h1 W)
    have HQ := Lib.hid (fun W => power_p b M v2 b2 (by omega) h2 W)
    have HG := Lib.hid (show ∀ W, (binOp .eql 23 (.agg #[.int .i64 E, .int .i64 S]) (.agg #[.int .i64 cv, .int .i64 S])).run Tryd.prog W = .ok (.bool r) W from fun W => sig_eq (by rw [← hr]; simp) W)
    clear hr b1 b2 l1 l2 h1 h2 lM isB
    go_enter Tryd.func15, Tryd.ntmps15
    go_wp2_with fail
    generalize w.alloc (.cells #[.int .i64 E, .int .i64 S] 23) = V at *
    refine (HC.out _).mono ?_
    rintro e w1 ⟨rfl, hb⟩
    replace B0 := on_below B0 hb
    replace p0 := keepc hb p0
    replace p1 := keepc hb p1
    replace HS := Lib.hid (HS.out.on hb)
    replace H := Lib.hid (H.out.below hb)
    clear hb
    go_wp2_with fail
    refine (HD.out _).mono ?_
    rintro e wq ⟨rfl, hw⟩
    subst hw
    go_wp2_with fail
    refine (HF.out _).mono ?_
    rintro e wq ⟨rfl, hw⟩
    subst hw
    go_wp2_with fail
    go_region_held3 (fun W => W.cell? ⟨w.heap.size, 0, none⟩ = some (.int .i64 E) ∧ W.cell? ⟨w.heap.size, 1, none⟩ = some (.int .i64 S) ∧ Below w1.heap.size w1 W)
      (first | assumption | exact ⟨p0, p1, (Below.refl _ _).drew⟩ | (go_split_ands; exact ⟨by assumption, by assumption, by assumption⟩) | (go_split_ands; exact ⟨keepc hb (by assumption), keepc hb (by assumption), on_below (by assumption) hb⟩))
      (first | (go_at_call 26; (with_reducible refine (HP.out _).mono ?_); rintro e' w2 ⟨rfl, hb⟩) | (go_at_call 26; (with_reducible refine (HQ.out _).mono ?_); rintro e' w2 ⟨rfl, hb⟩))
    go_split_ands
    replace p0 : w2.cell? ⟨w.heap.size, 0, none⟩ = some (.int .i64 E) := by assumption
    replace p1 : w2.cell? ⟨w.heap.size, 1, none⟩ = some (.int .i64 S) := by assumption
    have hb5 : Below w1.heap.size w1 w2 := by assumption
    replace B0 := on_below B0 hb5
    replace HS := Lib.hid (HS.out.on hb5)
    replace H := Lib.hid (H.out.below hb5)
    have HK := Lib.hid (fun W (hW : Below w2.heap.size w2 W) => challenge_any _ _ HT.out HU.out A C msg _ HH.out W (HS.out.on hW) (by have := HM.out; omega) HI.out (H.out.below hW))
    have hlt : w.heap.size < w2.heap.size := block_lt p0
    clear hb hb5 HP HQ HS H HT HU HH HM HI hM z0 hB z1
    go_wp2_with fail
    go_region_with (first | (go_at_call 28; (with_reducible refine (HK.out _ ?_).mono ?_); (first | exact (Below.refl _ _).drew | exact ((Below.refl _ _).alloc (Nat.le_refl _) _).drew | exact (Below.refl _ _).drew.alloc (Nat.le_refl _) _); rintro e w3 ⟨rfl, hb1⟩; have hb1' := hb1; obtain ⟨hcc, hff⟩ := bcell hb1; have hq1 : w3.cell? ⟨w.heap.size, 1, none⟩ = some (.int .i64 S) := (by rw [hcc _ _ (by simp <;> omega)]; simp [go_sem, p1, hlt]); have hq0 : w3.cell? ⟨w.heap.size, 0, none⟩ = some (.int .i64 E) := (by rw [hcc _ _ (by simp <;> omega)]; simp [go_sem, p0, hlt]); have hlt3 : w.heap.size < w3.heap.size := block_lt hq1; (first | (refine (fun (hl : Lc w3 w2.heap.size 0 0) => ?_) (new_kept hb1'); obtain ⟨⟨hn0, hn1⟩, hn2, hn3⟩ := hl) | skip); clear hcc hff hb1))
    all_goals
      have hg := HG.out
      go_wp2_with fail
      go_ret2
      exact ⟨rfl, by first | exact fin_a B0 hb1' | exact fin_b B0 hb1'⟩

set_option maxRecDepth 100000 in
set_option maxHeartbeats 4000000 in
theorem rverify_is (p E S : Int) (A : Option Addr) (C : Nat) (msg : List Int) (r : Bool) (e : Int) (he : vfE p E S msg = e) (hr : vfB p E S msg = r) (w : World) (hl : msg.length ≤ 9223372036854775807) (hi : ∀ x ∈ msg, I64 x) (h : Sk .i64 w A msg) :
    Calls Tryd.prog 16 #[.int .i64 p, .agg #[.int .i64 E, .int .i64 S], .slice A msg.length C] w fun e' w' => e' = .returned (.tuple #[.bool r, .int .i64 e]) ∧ Below w.heap.size w w' := by
  have B0 : Below w.heap.size w (w.alloc (.cells #[.int .i64 E, .int .i64 S] 23)) := (Below.refl _ _).alloc (Nat.le_refl _) _
  have p0 : World.cell? (w.alloc (.cells #[.int .i64 E, .int .i64 S] 23)) ⟨w.heap.size, 0, none⟩ = some (.int .i64 E) := by simp [go_sem]
  have p1 : World.cell? (w.alloc (.cells #[.int .i64 E, .int .i64 S] 23)) ⟨w.heap.size, 1, none⟩ = some (.int .i64 S) := by simp [go_sem]
  have H := Lib.hid (h.below B0)
  have HI := Lib.hid hi
  clear h hi
  by_cases hp : eltB p = true
  case neg =>
    have e1 : vfE p E S msg = 1 := by unfold vfE; rw [if_neg (fun hh => hp hh.1)]
    unfold vfB at hr
    rw [e1] at he hr
    rw [if_neg (by decide)] at hr
    subst he hr
    have HC := Lib.hid (fun W => relement_any p false (by simpa using hp) W)
    have HD := Lib.hid (fun W => rexponent_any E (expB E) rfl W)
    have HF := Lib.hid (fun W => rexponent_any S (expB S) rfl W)
    generalize expB E = b2 at *
    generalize expB S = b3 at *
    clear hp e1
    go_enter Tryd.func16, Tryd.ntmps16
    go_wp2_with fail
    generalize w.alloc (.cells #[.int .i64 E, .int .i64 S] 23) = V at *
    refine (HC.out _).mono ?_
    rintro e wq ⟨rfl, hw⟩
    subst hw
    go_wp2_with fail
    refine (HD.out _).mono ?_
    rintro e wq ⟨rfl, hw⟩
    subst hw
    go_wp2_with fail
    refine (HF.out _).mono ?_
    rintro e wq ⟨rfl, hw⟩
    subst hw
    go_wp2_with fail
    go_ret2
    exact ⟨rfl, B0⟩
  by_cases hE : expB E = true
  case neg =>
    have e1 : vfE p E S msg = 1 := by unfold vfE; rw [if_neg (fun hh => hE hh.2.1)]
    unfold vfB at hr
    rw [e1] at he hr
    rw [if_neg (by decide)] at hr
    subst he hr
    have HC := Lib.hid (fun W => relement_any p true hp W)
    have HD := Lib.hid (fun W => rexponent_any E false (by simpa using hE) W)
    have HF := Lib.hid (fun W => rexponent_any S (expB S) rfl W)
    generalize expB S = b3 at *
    clear hp hE e1
    go_enter Tryd.func16, Tryd.ntmps16
    go_wp2_with fail
    generalize w.alloc (.cells #[.int .i64 E, .int .i64 S] 23) = V at *
    refine (HC.out _).mono ?_
    rintro e wq ⟨rfl, hw⟩
    subst hw
    go_wp2_with fail
    refine (HD.out _).mono ?_
    rintro e wq ⟨rfl, hw⟩
    subst hw
    go_wp2_with fail
    refine (HF.out _).mono ?_
    rintro e wq ⟨rfl, hw⟩
    subst hw
    go_wp2_with fail
    go_ret2
    exact ⟨rfl, B0⟩
  by_cases hS : expB S = true
  case neg =>
    have e1 : vfE p E S msg = 1 := by unfold vfE; rw [if_neg (fun hh => hS hh.2.2)]
    unfold vfB at hr
    rw [e1] at he hr
    rw [if_neg (by decide)] at hr
    subst he hr
    have HC := Lib.hid (fun W => relement_any p true hp W)
    have HD := Lib.hid (fun W => rexponent_any E true hE W)
    have HF := Lib.hid (fun W => rexponent_any S false (by simpa using hS) W)
    clear hp hE hS e1
    go_enter Tryd.func16, Tryd.ntmps16
    go_wp2_with fail
    generalize w.alloc (.cells #[.int .i64 E, .int .i64 S] 23) = V at *
    refine (HC.out _).mono ?_
    rintro e wq ⟨rfl, hw⟩
    subst hw
    go_wp2_with fail
    refine (HD.out _).mono ?_
    rintro e wq ⟨rfl, hw⟩
    subst hw
    go_wp2_with fail
    refine (HF.out _).mono ?_
    rintro e wq ⟨rfl, hw⟩
    subst hw
    go_wp2_with fail
    go_ret2
    exact ⟨rfl, B0⟩
  by_cases hm : msg.length ≤ 32
  case neg =>
    have e1 : vfE p E S msg = 2 := by unfold vfE; rw [if_pos ⟨hp, hE, hS⟩, if_neg hm]
    unfold vfB at hr
    rw [e1] at he hr
    rw [if_neg (by decide)] at hr
    subst he hr
    have HC := Lib.hid (fun W => relement_any p true hp W)
    have HD := Lib.hid (fun W => rexponent_any E true hE W)
    have HF := Lib.hid (fun W => rexponent_any S true hS W)
    have hm2 : (32 : Int) < msg.length := by omega
    clear hp hE hS e1 hm
    go_enter Tryd.func16, Tryd.ntmps16
    go_wp2_with fail
    generalize w.alloc (.cells #[.int .i64 E, .int .i64 S] 23) = V at *
    refine (HC.out _).mono ?_
    rintro e wq ⟨rfl, hw⟩
    subst hw
    go_wp2_with fail
    refine (HD.out _).mono ?_
    rintro e wq ⟨rfl, hw⟩
    subst hw
    go_wp2_with fail
    refine (HF.out _).mono ?_
    rintro e wq ⟨rfl, hw⟩
    subst hw
    go_wp2_with fail
    go_ret2
    exact ⟨rfl, B0⟩
  case pos =>
    have e1 : vfE p E S msg = 0 := by unfold vfE; rw [if_pos ⟨hp, hE, hS⟩, if_pos hm]
    unfold vfB at hr
    rw [if_pos e1] at hr
    rw [e1] at he
    subst he
    have HC := Lib.hid (fun W => relement_any p true hp W)
    have HD := Lib.hid (fun W => rexponent_any E true hE W)
    have HF := Lib.hid (fun W => rexponent_any S true hS W)
    obtain ⟨b, rfl, b1, b2⟩ := eltB_nat hp
    obtain ⟨E, rfl, l1⟩ := expB_nat hE
    obtain ⟨S, rfl, l2⟩ := expB_nat hS
    have HT := Lib.hid (bak_i64 b E S)
    have HU := Lib.hid (show I64 (b : Int) from ⟨by omega, by omega⟩)
    have HM := Lib.hid hm
    have hm3 : decide ((32 : Int) < msg.length) = false := by rw [decide_eq_false_iff_not]; omega
    obtain ⟨cv, hcv⟩ : ∃ v, chV (bakN b E S : Nat) b msg = v := ⟨_, rfl⟩
    replace hr : decide ((E : Int) = cv) = r := by rw [← hr]; exact decide_eq_decide.2 (by simp only [Int.toNat_natCast, hcv])
    have HH := Lib.hid hcv
    clear hcv hp hE hS e1 hm
    have HP := Lib.hid (fun W => back_any b E S b2 l1 l2 W)
    have hq : ((cv : Int) == E) = r := beq_flip hr
    have HQ := Lib.hid (fun W hl' (h' : Sk .i64 W A msg) => rchallenge_any _ _ HT.out HU.out A C msg _ HH.out W hl' HI.out h')
    generalize (bakN b E S : Nat) = B at *
    clear hr b1 b2 l1 l2 HT HU HH
    go_enter Tryd.func16, Tryd.ntmps16
    go_wp2_with fail
    generalize w.alloc (.cells #[.int .i64 E, .int .i64 S] 23) = V at *
    refine (HC.out _).mono ?_
    rintro e wq ⟨rfl, hw⟩
    subst hw
    go_wp2_with fail
    refine (HD.out _).mono ?_
    rintro e wq ⟨rfl, hw⟩
    subst hw
    go_wp2_with fail
    refine (HF.out _).mono ?_
    rintro e wq ⟨rfl, hw⟩
    subst hw
    go_wp2_with fail
    have hm9 : msg.length ≤ 900 := by have := HM.out; omega
    go_region_held3 (fun W => W.cell? ⟨w.heap.size, 0, none⟩ = some (.int .i64 E) ∧ W.cell? ⟨w.heap.size, 1, none⟩ = some (.int .i64 S) ∧ Below V.heap.size V W)
      (first | assumption | exact ⟨p0, p1, (Below.refl _ _).drew⟩ | (go_split_ands; exact ⟨by assumption, by assumption, by assumption⟩) | (go_split_ands; exact ⟨keepc hb (by assumption), keepc hb (by assumption), on_below (by assumption) hb⟩))
      (first | (go_at_call 22; (with_reducible refine (HP.out _).mono ?_); rintro e' w2 ⟨rfl, hb⟩) | (go_at_call 21; (with_reducible refine (HQ.out _ hm9 ?_).mono ?_); (go_split_ands; exact H.out.below (by assumption)); rintro e' w2 ⟨rfl, hb⟩))
    go_split_ands
    go_wp2_with fail
    go_ret2
    exact ⟨rfl, on_below B0 (by assumption)⟩
end Go.Proofs.YtiapigoknlaihaaDoor
