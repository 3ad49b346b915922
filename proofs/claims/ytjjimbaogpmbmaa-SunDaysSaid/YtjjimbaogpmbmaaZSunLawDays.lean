/-
  SunDays.
-/
import Derived.Test.YtjjimbaogpmbmaaZSunZN
import Derived.Test.YtjjimbaogpmbmaaRows
import Derived.ProofKit
import Derived.OpenShut
import Derived.Deep.DeepHandedRow
import Derived.Deep.DeepWitnessRowRef
import Derived.MakeChecks
import Derived.Deep.DeepCutAuto
import Derived.Deep.QuietTactic
import Derived.BigQuiet
namespace Go.Proofs.Ytjjimbaogpmbmaa.LawDays
open Go.RowKit Go.Sort
open Go.RowKit (Below)
set_option linter.unusedVariables false
set_option linter.unusedSimpArgs false
attribute [local go_sem] Oper.semAt_some

theorem snoc_ex {P : Nat → Prop} {k : Nat} : (∃ j, j < k + 1 ∧ P j) ↔ (∃ j, j < k ∧ P j) ∨ P k := by
  constructor
  · rintro ⟨j, hj, h⟩
    rcases Nat.lt_succ_iff_lt_or_eq.1 hj with e | rfl
    · exact Or.inl ⟨j, e, h⟩
    · exact Or.inr h
  · rintro (⟨j, hj, h⟩ | h)
    · exact ⟨j, by omega, h⟩
    · exact ⟨k, Nat.lt_succ_self k, h⟩
theorem dir_day {T : List Q4} {m x y z : Int} (h : Dir T m x y z) : Dir T (m + 1440) x y z := by
  have e : (m + 1440) % 1440 = m % 1440 := by omega
  unfold Dir
  rw [e]
  exact h
theorem dir_hit {T : List Q4} {m x y z : Int} (hs : Sok T) (hd : Dir T m x y z) {k : Nat} (hk : k < T.length) (h : (gd4 T k).a = m % 1440) : (gd4 T k).b = x ∧ (gd4 T k).c = y ∧ (gd4 T k).d = z :=
  dir_fun ⟨k, ⟨hk, Or.inl ⟨by omega, fun j h1 h2 => by have := hs.lt h1 h2; omega⟩⟩, rfl, rfl, rfl⟩ hd
theorem dir_next {T : List Q4} {m x y z a b c : Int} (hs : Sok T) (hm : 0 ≤ m) (hd : Dir T m x y z) (hn : Dir T (m + 1) a b c) : (a = x ∧ b = y ∧ c = z) ∨ ∃ k, k < T.length ∧ (gd4 T k).a = (m + 1) % 1440 ∧ ((gd4 T k).b = a ∧ (gd4 T k).c = b ∧ (gd4 T k).d = c) := by
  by_cases h : ∃ k, k < T.length ∧ (gd4 T k).a = (m + 1) % 1440
  · obtain ⟨k, hk, e⟩ := h
    exact Or.inr ⟨k, hk, e, dir_hit hs hn hk e⟩
  · left
    have hne : ∀ j, j < T.length → (gd4 T j).a ≠ (m + 1) % 1440 := fun j hj e => h ⟨j, hj, e⟩
    obtain ⟨i, ⟨hi, hx⟩, rfl, rfl, rfl⟩ := hd
    refine dir_fun hn ⟨i, ⟨hi, ?_⟩, rfl, rfl, rfl⟩
    by_cases h9 : m % 1440 = 1439
    · have e0 : (m + 1) % 1440 = 0 := by omega
      rcases hx with ⟨h1, h2⟩ | ⟨h1, h2⟩
      · have hl : i + 1 = T.length := by
          rcases Nat.lt_or_ge (i + 1) T.length with g | g
          · have := h2 (i + 1) (Nat.lt_succ_self i) g
            have := hs.hi (i + 1) g
            omega
          · omega
        exact Or.inr ⟨hl, fun j hj => by have := hs.lo j hj; have := hne j hj; omega⟩
      · have := h2 i hi
        have := hs.hi i hi
        omega
    · have e0 : (m + 1) % 1440 = m % 1440 + 1 := by omega
      rcases hx with ⟨h1, h2⟩ | ⟨h1, h2⟩
      · exact Or.inl ⟨by omega, fun j k1 k2 => by have := h2 j k1 k2; have := hne j k2; omega⟩
      · exact Or.inr ⟨h1, fun j hj => by have := h2 j hj; have := hne j hj; omega⟩
set_option maxRecDepth 100000 in
set_option maxHeartbeats 4000000 in
theorem days_0 (tA : Option Addr) (tC : Nat) (t : List Q4) (m : Int) (im : I64 m) (h4 : t.length ≤ 9223372036854775807) (hf : ¬ FewS t.length []) (w : World) (ht : S4 w tA t) :
    Calls Try.prog 3 #[.slice tA t.length tC, .int .i64 m] w fun e_ w' => e_ = .returned (.bool true) ∧ Below w.heap.size w w' := by
  have HF := Lib.hid (fun W => few10_is tA tC t none 0 [] h4 (by simp) (fun k hk => absurd hk (Nat.not_lt_zero k)) false (by simp [hf]) W (BdS.nil W none))
  simp only [List.length_nil] at HF
  clear hf
  have HT := Lib.hid ht
  clear ht
  have HB := Lib.hid (Below.refl w.heap.size w)
  go_enter Try.func3, Try.ntmps3
  go_wp2_with fail
  with_reducible refine (head10_any _).mono ?_
  rintro e_ w1 ⟨rfl, hb⟩
  replace HB := Lib.hid (on_below HB.out hb)
  replace HT := Lib.hid (HT.out.below hb)
  clear hb
  go_wp2_with fail
  with_reducible refine (HF.out _).mono ?_
  rintro e_ w2 ⟨rfl, hb⟩
  replace HB := Lib.hid (on_below HB.out hb)
  replace HT := Lib.hid (HT.out.below hb)
  clear hb
  go_wp2_with fail
  go_ret
  exact ⟨rfl, HB.out⟩
set_option maxRecDepth 100000 in
set_option maxHeartbeats 4000000 in
theorem days_1 (tA : Option Addr) (tC : Nat) (t : List Q4) (m : Int) (im : I64 m) (h4 : t.length ≤ 9223372036854775807) (hf : FewS t.length []) (hs : ¬ Sok t) (w : World) (ht : S4 w tA t) :
    Calls Try.prog 3 #[.slice tA t.length tC, .int .i64 m] w fun e_ w' => e_ = .returned (.bool true) ∧ Below w.heap.size w w' := by
  have HF := Lib.hid (fun W => few10_is tA tC t none 0 [] h4 (by simp) (fun k hk => absurd hk (Nat.not_lt_zero k)) true (by simp [hf]) W (BdS.nil W none))
  simp only [List.length_nil] at HF
  have HV := Lib.hid (fun W (h : S4 W tA t) => svalid_is tA tC t h4 false (by simp [hs]) W h)
  clear hf hs
  have HT := Lib.hid ht
  clear ht
  have HB := Lib.hid (Below.refl w.heap.size w)
  go_enter Try.func3, Try.ntmps3
  go_wp2_with fail
  with_reducible refine (head10_any _).mono ?_
  rintro e_ w1 ⟨rfl, hb⟩
  replace HB := Lib.hid (on_below HB.out hb)
  replace HT := Lib.hid (HT.out.below hb)
  clear hb
  go_wp2_with fail
  with_reducible refine (HF.out _).mono ?_
  rintro e_ w2 ⟨rfl, hb⟩
  replace HB := Lib.hid (on_below HB.out hb)
  replace HT := Lib.hid (HT.out.below hb)
  clear hb
  go_wp2_with fail
  with_reducible refine (HV.out _ HT.out).mono ?_
  rintro e_ w3 ⟨rfl, hb⟩
  replace HB := Lib.hid (on_below HB.out hb)
  replace HT := Lib.hid (HT.out.below hb)
  clear hb
  go_wp2_with fail
  go_ret
  exact ⟨rfl, HB.out⟩
set_option maxRecDepth 100000 in
set_option maxHeartbeats 4000000 in
theorem days_2 (tA : Option Addr) (tC : Nat) (t : List Q4) (m : Int) (im : I64 m) (h4 : t.length ≤ 9223372036854775807) (hf : FewS t.length []) (hs : Sok t) (hm : m < 0) (w : World) (ht : S4 w tA t) :
    Calls Try.prog 3 #[.slice tA t.length tC, .int .i64 m] w fun e_ w' => e_ = .returned (.bool true) ∧ Below w.heap.size w w' := by
  have HF := Lib.hid (fun W => few10_is tA tC t none 0 [] h4 (by simp) (fun k hk => absurd hk (Nat.not_lt_zero k)) true (by simp [hf]) W (BdS.nil W none))
  simp only [List.length_nil] at HF
  have HV := Lib.hid (fun W (h : S4 W tA t) => svalid_is tA tC t h4 true (by simp [hs]) W h)
  clear hf hs
  have HT := Lib.hid ht
  clear ht
  have HB := Lib.hid (Below.refl w.heap.size w)
  go_enter Try.func3, Try.ntmps3
  go_wp2_with fail
  with_reducible refine (head10_any _).mono ?_
  rintro e_ w1 ⟨rfl, hb⟩
  replace HB := Lib.hid (on_below HB.out hb)
  replace HT := Lib.hid (HT.out.below hb)
  clear hb
  go_wp2_with fail
  with_reducible refine (HF.out _).mono ?_
  rintro e_ w2 ⟨rfl, hb⟩
  replace HB := Lib.hid (on_below HB.out hb)
  replace HT := Lib.hid (HT.out.below hb)
  clear hb
  go_wp2_with fail
  with_reducible refine (HV.out _ HT.out).mono ?_
  rintro e_ w3 ⟨rfl, hb⟩
  replace HB := Lib.hid (on_below HB.out hb)
  replace HT := Lib.hid (HT.out.below hb)
  clear hb
  go_wp2_with fail
  go_ret
  exact ⟨rfl, HB.out⟩
set_option maxRecDepth 100000 in
set_option maxHeartbeats 4000000 in
theorem days_3 (tA : Option Addr) (tC : Nat) (t : List Q4) (m : Int) (im : I64 m) (h4 : t.length ≤ 9223372036854775807) (hf : FewS t.length []) (hs : Sok t) (hm : 598560 < m) (w : World) (ht : S4 w tA t) :
    Calls Try.prog 3 #[.slice tA t.length tC, .int .i64 m] w fun e_ w' => e_ = .returned (.bool true) ∧ Below w.heap.size w w' := by
  have HF := Lib.hid (fun W => few10_is tA tC t none 0 [] h4 (by simp) (fun k hk => absurd hk (Nat.not_lt_zero k)) true (by simp [hf]) W (BdS.nil W none))
  simp only [List.length_nil] at HF
  have HV := Lib.hid (fun W (h : S4 W tA t) => svalid_is tA tC t h4 true (by simp [hs]) W h)
  clear hf hs
  have HT := Lib.hid ht
  clear ht
  have HB := Lib.hid (Below.refl w.heap.size w)
  go_enter Try.func3, Try.ntmps3
  go_wp2_with fail
  with_reducible refine (head10_any _).mono ?_
  rintro e_ w1 ⟨rfl, hb⟩
  replace HB := Lib.hid (on_below HB.out hb)
  replace HT := Lib.hid (HT.out.below hb)
  clear hb
  go_wp2_with fail
  with_reducible refine (HF.out _).mono ?_
  rintro e_ w2 ⟨rfl, hb⟩
  replace HB := Lib.hid (on_below HB.out hb)
  replace HT := Lib.hid (HT.out.below hb)
  clear hb
  go_wp2_with fail
  with_reducible refine (HV.out _ HT.out).mono ?_
  rintro e_ w3 ⟨rfl, hb⟩
  replace HB := Lib.hid (on_below HB.out hb)
  replace HT := Lib.hid (HT.out.below hb)
  clear hb
  go_wp2_with fail
  go_ret
  exact ⟨rfl, HB.out⟩
set_option maxRecDepth 100000 in
set_option maxHeartbeats 4000000 in
theorem days_4 (tA : Option Addr) (tC : Nat) (t : List Q4) (m : Int) (im : I64 m) (h4 : t.length ≤ 9223372036854775807) (hf : FewS t.length []) (hs : Sok t) (h0 : 0 ≤ m) (h9 : m ≤ 598560) (x y z a b c : Int) (hd : Dir t m x y z) (hn : Dir t (m + 1) a b c) (w : World) (ht : S4 w tA t) :
    Calls Try.prog 3 #[.slice tA t.length tC, .int .i64 m] w fun e_ w' => e_ = .returned (.bool true) ∧ Below w.heap.size w w' := by
  have HF := Lib.hid (fun W => few10_is tA tC t none 0 [] h4 (by simp) (fun k hk => absurd hk (Nat.not_lt_zero k)) true (by simp [hf]) W (BdS.nil W none))
  simp only [List.length_nil] at HF
  have HV := Lib.hid (fun W (h : S4 W tA t) => svalid_is tA tC t h4 true (by simp [hs]) W h)
  obtain ⟨u, hu⟩ : ∃ u, decide (0 < z) = u := ⟨_, rfl⟩
  obtain ⟨v, hv⟩ : ∃ v, decide (0 < c) = v := ⟨_, rfl⟩
  obtain ⟨m1, hm1⟩ : ∃ m1, m % 1440 = m1 := ⟨_, rfl⟩
  obtain ⟨m2, hm2⟩ : ∃ m2, (m + 1) % 1440 = m2 := ⟨_, rfl⟩
  have C1 := Lib.hid (fun W (h : S4 W tA t) => at_is tA tC t m h4 x y z u 0 (Or.inl ⟨⟨hs, h0, by omega⟩, rfl, hd, hu.symm⟩) W h)
  have C2 := Lib.hid (fun W (h : S4 W tA t) => at_is tA tC t (m + 1440) h4 x y z u 0 (Or.inl ⟨⟨hs, by omega, by omega⟩, rfl, dir_day hd, hu.symm⟩) W h)
  have C3 := Lib.hid (fun W (h : S4 W tA t) => at_is tA tC t (m + 1) h4 a b c v 0 (Or.inl ⟨⟨hs, by omega, by omega⟩, rfl, hn, hv.symm⟩) W h)
  have HD := Lib.hid (fun k (hk : k < t.length) (e : (gd4 t k).a = m1) => dir_hit hs hd hk (e.trans hm1.symm))
  have HX := Lib.hid (dir_next hs h0 hd hn)
  have tm1 : m.tmod 1440 = m1 := (Int.tmod_eq_emod_of_nonneg h0).trans hm1
  have tm2 : (m + 1).tmod 1440 = m2 := (Int.tmod_eq_emod_of_nonneg (by omega)).trans hm2
  rw [hm2] at HX
  have wm1 : IntKind.i64.wrap (m + 1) = m + 1 := IntWalk.i64_in _ ⟨by omega, by omega⟩
  have wm2 : wrap64 (m + 1) = m + 1 := IntWalk.wrap64_in _ ⟨by omega, by omega⟩
  have en := fun W => vec_ne (a := x) (b := y) (c := z) (x := x) (y := y) (z := z) (r := true) (decide_eq_true ⟨rfl, rfl, rfl⟩) W
  simp only [Bool.not_true] at en
  obtain ⟨r0, hr0⟩ : ∃ r, decide (a = x ∧ b = y ∧ c = z) = r := ⟨_, rfl⟩
  have hl := hf.1
  clear hf hs hd hn hv hm1 hm2 im h4
  have HT := Lib.hid ht
  clear ht
  have HB := Lib.hid (Below.refl w.heap.size w)
  go_enter Try.func3, Try.ntmps3
  go_wp2_with fail
  with_reducible refine (head10_any _).mono ?_
  rintro e_ w1 ⟨rfl, hb⟩
  replace HB := Lib.hid (on_below HB.out hb)
  replace HT := Lib.hid (HT.out.below hb)
  clear hb
  go_wp2_with fail
  with_reducible refine (HF.out _).mono ?_
  rintro e_ w2 ⟨rfl, hb⟩
  replace HB := Lib.hid (on_below HB.out hb)
  replace HT := Lib.hid (HT.out.below hb)
  clear hb
  go_wp2_with fail
  with_reducible refine (HV.out _ HT.out).mono ?_
  rintro e_ w3 ⟨rfl, hb⟩
  replace HB := Lib.hid (on_below HB.out hb)
  replace HT := Lib.hid (HT.out.below hb)
  clear hb
  go_wp2_with fail
  with_reducible refine (C1.out _ HT.out).mono ?_
  rintro e_ w4 ⟨rfl, hb⟩
  replace HB := Lib.hid (on_below HB.out hb)
  replace HT := Lib.hid (HT.out.below hb)
  clear hb
  go_wp2_with fail
  have p0 : World.cell? (w4.alloc (.cells #[.int .i64 x, .int .i64 y, .int .i64 z] 27)) ⟨w4.heap.size, 0, none⟩ = some (.int .i64 x) := by simp [go_sem]
  have p1 : World.cell? (w4.alloc (.cells #[.int .i64 x, .int .i64 y, .int .i64 z] 27)) ⟨w4.heap.size, 1, none⟩ = some (.int .i64 y) := by simp [go_sem]
  have p2 : World.cell? (w4.alloc (.cells #[.int .i64 x, .int .i64 y, .int .i64 z] 27)) ⟨w4.heap.size, 2, none⟩ = some (.int .i64 z) := by simp [go_sem]
  have lp : w4.heap.size < (w4.alloc (.cells #[.int .i64 x, .int .i64 y, .int .i64 z] 27)).heap.size := by simp
  have hb : Below w4.heap.size w4 (w4.alloc (.cells #[.int .i64 x, .int .i64 y, .int .i64 z] 27)) := below_new _ _
  generalize w4.alloc (.cells #[.int .i64 x, .int .i64 y, .int .i64 z] 27) = w5 at *
  replace HB := Lib.hid (on_below HB.out hb)
  replace HT := Lib.hid (HT.out.below hb)
  clear hb
  generalize w4.heap.size = gp at *
  with_reducible refine (C2.out _ HT.out).mono ?_
  rintro e_ w6 ⟨rfl, hb⟩
  replace HB := Lib.hid (on_below HB.out hb)
  replace HT := Lib.hid (HT.out.below hb)
  replace p0 := keepc hb p0
  replace p1 := keepc hb p1
  replace p2 := keepc hb p2
  replace lp := Nat.lt_of_lt_of_le lp hb.size
  clear hb
  go_wp2_with fail
  have q0 : World.cell? (w6.alloc (.cells #[.int .i64 x, .int .i64 y, .int .i64 z] 27)) ⟨w6.heap.size, 0, none⟩ = some (.int .i64 x) := by simp [go_sem]
  have q1 : World.cell? (w6.alloc (.cells #[.int .i64 x, .int .i64 y, .int .i64 z] 27)) ⟨w6.heap.size, 1, none⟩ = some (.int .i64 y) := by simp [go_sem]
  have q2 : World.cell? (w6.alloc (.cells #[.int .i64 x, .int .i64 y, .int .i64 z] 27)) ⟨w6.heap.size, 2, none⟩ = some (.int .i64 z) := by simp [go_sem]
  have lq : w6.heap.size < (w6.alloc (.cells #[.int .i64 x, .int .i64 y, .int .i64 z] 27)).heap.size := by simp
  have hb : Below w6.heap.size w6 (w6.alloc (.cells #[.int .i64 x, .int .i64 y, .int .i64 z] 27)) := below_new _ _
  generalize w6.alloc (.cells #[.int .i64 x, .int .i64 y, .int .i64 z] 27) = w7 at *
  replace HB := Lib.hid (on_below HB.out hb)
  replace HT := Lib.hid (HT.out.below hb)
  replace p0 := keepc hb p0
  replace p1 := keepc hb p1
  replace p2 := keepc hb p2
  replace lp := Nat.lt_of_lt_of_le lp hb.size
  clear hb
  generalize w6.heap.size = gq at *
  with_reducible refine (C3.out _ HT.out).mono ?_
  rintro e_ w8 ⟨rfl, hb⟩
  replace HB := Lib.hid (on_below HB.out hb)
  replace HT := Lib.hid (HT.out.below hb)
  replace p0 := keepc hb p0
  replace p1 := keepc hb p1
  replace p2 := keepc hb p2
  replace q0 := keepc hb q0
  replace q1 := keepc hb q1
  replace q2 := keepc hb q2
  replace lp := Nat.lt_of_lt_of_le lp hb.size
  replace lq := Nat.lt_of_lt_of_le lq hb.size
  clear hb
  go_wp2_with fail
  have n0 : World.cell? (w8.alloc (.cells #[.int .i64 a, .int .i64 b, .int .i64 c] 27)) ⟨w8.heap.size, 0, none⟩ = some (.int .i64 a) := by simp [go_sem]
  have n1 : World.cell? (w8.alloc (.cells #[.int .i64 a, .int .i64 b, .int .i64 c] 27)) ⟨w8.heap.size, 1, none⟩ = some (.int .i64 b) := by simp [go_sem]
  have n2 : World.cell? (w8.alloc (.cells #[.int .i64 a, .int .i64 b, .int .i64 c] 27)) ⟨w8.heap.size, 2, none⟩ = some (.int .i64 c) := by simp [go_sem]
  have ln : w8.heap.size < (w8.alloc (.cells #[.int .i64 a, .int .i64 b, .int .i64 c] 27)).heap.size := by simp
  have hb : Below w8.heap.size w8 (w8.alloc (.cells #[.int .i64 a, .int .i64 b, .int .i64 c] 27)) := below_new _ _
  generalize w8.alloc (.cells #[.int .i64 a, .int .i64 b, .int .i64 c] 27) = w9 at *
  replace HB := Lib.hid (on_below HB.out hb)
  replace HT := Lib.hid (HT.out.below hb)
  replace p0 := keepc hb p0
  replace p1 := keepc hb p1
  replace p2 := keepc hb p2
  replace q0 := keepc hb q0
  replace q1 := keepc hb q1
  replace q2 := keepc hb q2
  replace lp := Nat.lt_of_lt_of_le lp hb.size
  replace lq := Nat.lt_of_lt_of_le lq hb.size
  clear hb
  generalize w8.heap.size = gn at *
  go_wp2_with fail
  go_loopw [15, 16] (fun u i wr => ∃ (k : Nat) (g : Bool), k ≤ t.length ∧ i = .int .i64 k ∧ u = .bool g ∧ Hid (g = true ↔ ∃ j, j < k ∧ (gd4 t j).a = m2 ∧ ((gd4 t j).b = a ∧ (gd4 t j).c = b ∧ (gd4 t j).d = c)) ∧ Below w9.heap.size w9 wr) (fun _ i _ => t.length - (intOf i).toNat)
  case atStart => exact ⟨0, false, Nat.zero_le _, rfl, rfl, ⟨fun h => (Bool.noConfusion h), fun ⟨j, hj, _⟩ => absurd hj (Nat.not_lt_zero j)⟩, Below.refl _ _⟩
  case round =>
    obtain ⟨k, g, hk, rfl, rfl, HK, hW⟩ := hrel
    have kb : (k : Int) ≤ 102 := by omega
    have w1_ : IntKind.i64.wrap ((k : Int) + 1) = (k : Int) + 1 := wrp1 ⟨by omega, by omega⟩
    have w2_ : wrap64 ((k : Int) + 1) = (k : Int) + 1 := wrp2 ⟨by omega, by omega⟩
    replace HB := Lib.hid (on_below HB.out hW)
    replace p0 := keepc hW p0
    replace p1 := keepc hW p1
    replace p2 := keepc hW p2
    replace n0 := keepc hW n0
    replace n1 := keepc hW n1
    replace n2 := keepc hW n2
    by_cases hlt : k < t.length
    · obtain ⟨b0, o0, rfl, e0, e1, e2, e3⟩ := HT.out.below hW k hlt
      have hk1 : (k : Int) < t.length := Int.ofNat_lt.2 hlt
      have HH := Lib.hid (HD.out k hlt)
      have HS := Lib.hid (snoc_ex (P := fun j => (gd4 t j).a = m2 ∧ ((gd4 t j).b = a ∧ (gd4 t j).c = b ∧ (gd4 t j).d = c)) (k := k))
      have HW := Lib.hid hW
      clear hW
      obtain ⟨r1, hr1⟩ : ∃ r, decide ((gd4 t k).b = a ∧ (gd4 t k).c = b ∧ (gd4 t k).d = c) = r := ⟨_, rfl⟩
      have HR := Lib.hid hr1
      generalize (gd4 t k).a = fa at *
      generalize (gd4 t k).b = fb at *
      generalize (gd4 t k).c = fc at *
      generalize (gd4 t k).d = fd at *
      have ev := fun W => vec_eq (a := fb) (b := fc) (c := fd) (x := a) (y := b) (z := c) (r := r1) hr1 W
      clear hr1
      have HN : Hid ((g || (decide (fa = m2) && r1)) = true ↔ ∃ j, j < k + 1 ∧ (gd4 t j).a = m2 ∧ ((gd4 t j).b = a ∧ (gd4 t j).c = b ∧ (gd4 t j).d = c)) := by
        rw [HS.out, ← HK.out, ← HR.out]
        simp only [Bool.or_eq_true, Bool.and_eq_true, decide_eq_true_eq]
        first | exact Iff.rfl | (exact or_comm) | (constructor <;> (rintro (h | h) <;> simp_all))
      clear HS HR
      by_cases q1 : fa = m1
      · obtain ⟨z1, z2, z3⟩ := HH.out q1
        have ew := fun W => vec_ne (a := fb) (b := fc) (c := fd) (x := x) (y := y) (z := z) (r := true) (decide_eq_true ⟨z1, z2, z3⟩) W
        simp only [Bool.not_true] at ew
        have y1 : (fa == m1) = true := by simp [q1]
        clear q1 z1 z2 z3
        go_wp2_with fail
        go_quiet (fail)
        go_wp2_with fail
        cases g
        · by_cases q2 : fa = m2
          · have y2 : (fa == m2) = true := by simp [q2]
            have yd : decide (fa = m2) = true := decide_eq_true q2
            clear q2
            cases r1
            · go_quiet (fail)
              go_wp2_with fail
              go_roundw
              case rel => exact ⟨k + 1, false, hlt, int_of (by first | rfl | exact w1_ | exact w2_), rfl, (by have h := HN.out; rw [yd] at h; exact h), below_drewN' HW.out _⟩
              case measure => simp [intOf, w1_, w2_]; clear w1_ w2_; omega
            · go_quiet (fail)
              go_wp2_with fail
              go_roundw
              case rel => exact ⟨k + 1, true, hlt, int_of (by first | rfl | exact w1_ | exact w2_), rfl, (by have h := HN.out; rw [yd] at h; exact h), below_drewN' HW.out _⟩
              case measure => simp [intOf, w1_, w2_]; clear w1_ w2_; omega
          · have y2 : (fa == m2) = false := by simp [q2]
            have yd : decide (fa = m2) = false := decide_eq_false q2
            clear q2
            go_quiet (fail)
            go_wp2_with fail
            go_roundw
            case rel => exact ⟨k + 1, false, hlt, int_of (by first | rfl | exact w1_ | exact w2_), rfl, (by have h := HN.out; rw [yd] at h; exact h), below_drewN' HW.out _⟩
            case measure => simp [intOf, w1_, w2_]; clear w1_ w2_; omega
        · go_quiet (fail)
          go_wp2_with fail
          go_roundw
          case rel => exact ⟨k + 1, true, hlt, int_of (by first | rfl | exact w1_ | exact w2_), rfl, (by have h := HN.out; exact h), below_drewN' HW.out _⟩
          case measure => simp [intOf, w1_, w2_]; clear w1_ w2_; omega
      · have y1 : (fa == m1) = false := by simp [q1]
        clear q1
        go_wp2_with fail
        go_quiet (fail)
        go_wp2_with fail
        cases g
        · by_cases q2 : fa = m2
          · have y2 : (fa == m2) = true := by simp [q2]
            have yd : decide (fa = m2) = true := decide_eq_true q2
            clear q2
            cases r1
            · go_quiet (fail)
              go_wp2_with fail
              go_roundw
              case rel => exact ⟨k + 1, false, hlt, int_of (by first | rfl | exact w1_ | exact w2_), rfl, (by have h := HN.out; rw [yd] at h; exact h), below_drewN' HW.out _⟩
              case measure => simp [intOf, w1_, w2_]; clear w1_ w2_; omega
            · go_quiet (fail)
              go_wp2_with fail
              go_roundw
              case rel => exact ⟨k + 1, true, hlt, int_of (by first | rfl | exact w1_ | exact w2_), rfl, (by have h := HN.out; rw [yd] at h; exact h), below_drewN' HW.out _⟩
              case measure => simp [intOf, w1_, w2_]; clear w1_ w2_; omega
          · have y2 : (fa == m2) = false := by simp [q2]
            have yd : decide (fa = m2) = false := decide_eq_false q2
            clear q2
            go_quiet (fail)
            go_wp2_with fail
            go_roundw
            case rel => exact ⟨k + 1, false, hlt, int_of (by first | rfl | exact w1_ | exact w2_), rfl, (by have h := HN.out; rw [yd] at h; exact h), below_drewN' HW.out _⟩
            case measure => simp [intOf, w1_, w2_]; clear w1_ w2_; omega
        · go_quiet (fail)
          go_wp2_with fail
          go_roundw
          case rel => exact ⟨k + 1, true, hlt, int_of (by first | rfl | exact w1_ | exact w2_), rfl, (by have h := HN.out; exact h), below_drewN' HW.out _⟩
          case measure => simp [intOf, w1_, w2_]; clear w1_ w2_; omega
    · have hke : k = t.length := Nat.le_antisymm hk (Nat.le_of_not_lt hlt)
      subst hke
      clear w1_ w2_
      have er := fun W => vec_eq (a := a) (b := b) (c := c) (x := x) (y := y) (z := z) (r := r0) hr0 W
      cases r0
      · have hg := HK.out.2 (HX.out.resolve_left (of_decide_eq_false hr0))
        subst hg
        clear hr0
        go_wp2_with fail
        go_ret
        exact ⟨rfl, HB.out⟩
      · clear hr0
        go_wp2_with fail
        go_ret
        exact ⟨rfl, HB.out⟩
theorem few_nil {n : Nat} : FewS n [] ↔ n ≤ 102 := ⟨fun h => h.1, fun h => ⟨h, Nat.zero_le _, fun k hk => absurd hk (Nat.not_lt_zero k)⟩⟩
theorem law_any (tA : Option Addr) (tC : Nat) (t : List Q4) (m : Int) (im : I64 m) (w : World) (lt : L4 w tA tC t) :
    Calls Try.prog 3 #[.slice tA t.length tC, .int .i64 m] w fun e_ w' => e_ = .returned (.bool true) ∧ Below w.heap.size w w' := by
  have h4 : t.length ≤ 9223372036854775807 := Nat.le_trans lt.cap.1 lt.cap.2
  by_cases hf : FewS t.length []
  · by_cases hs : Sok t
    · by_cases h0 : m < 0
      · exact days_2 tA tC t m im h4 hf hs h0 w lt.sl
      · by_cases h9 : 598560 < m
        · exact days_3 tA tC t m im h4 hf hs h9 w lt.sl
        · obtain ⟨x, y, z, hd⟩ := dir_ex hs.n1 m
          obtain ⟨a, b, c, hn⟩ := dir_ex hs.n1 (m + 1)
          exact days_4 tA tC t m im h4 hf hs (by omega) (by omega) x y z a b c hd hn w lt.sl
    · exact days_1 tA tC t m im h4 hf hs w lt.sl
  · exact days_0 tA tC t m im h4 hf w lt.sl
/-! ### The row -/
open Go.ChangeShapes Go.WideShapes Go.ChangeAt Go.Joins
theorem own : ownKnob Try.prog.godebug = none := by kernel_rfl
noncomputable def laidWorld (os : Os) : World := World.holding Try.prog os ⟨#[], #[], []⟩
theorem laidWorld_met (os : Os) (args : Array Value) : laidMet Try.prog [] ((laidWorld os).forCall (fun _ _ => 0) ⟨#[], args, []⟩).memory :=
  laidMet_of_run' 8 (by kernel_rfl) (by kernel_rfl)

set_option maxRecDepth 100000 in
theorem contract (H : Type) (enc : TypeId × Value → H) (W : World) (base : Nat) (args : Array Value) (ds gs : List (DataW H)) (before : List MemPlace)
    (hval : ∀ (j : Nat) t v, Try.f3.params[j]? = some t → args[j]? = some v → Value.okWide Try.prog W .any base t v)
    (hW : DataW.Whole enc Try.prog Try.f3.params.toList Rows.sunDaysSpec.vars false W args.toList ds gs before) :
    Calls Try.prog 3 args W fun e W' => ∃ v, e = .returned v ∧ Rows.sunDaysSpec.post enc Try.prog Try.f3 false true false false W args v W' := by
  have hW' := hW
  have hold : ∀ q ∈ before, decide (q.block < W.heap.size) = true := fun q hq => by simpa using hW.lt q hq
  obtain ⟨p, q, hA0, hV, rfl, hfz, hnd⟩ := hW
  have hA : DataW.TrodAll enc Try.prog W 0 (fun _ => true) true Try.f3.params.toList args.toList ds p := hA0
  rw [Try.params3] at hA hval
  obtain ⟨v0, vs0, d0, ds0, p0, q0, hargs, rfl, rfl, h0, r0⟩ := trodAll_cons hA
  obtain ⟨v1, vs1, d1, ds1, p1, q1, rfl, rfl, rfl, h1, r1⟩ := trodAll_cons r0
  obtain ⟨rfl, rfl, rfl⟩ := trodAll_nil r1
  obtain rfl : args = #[v0, v1] := Array.toList_inj.1 hargs
  obtain ⟨rfl, rfl⟩ := trodVars_none hV
  obtain ⟨tA, tC, t, rfl, lt, shutt⟩ := open_suns (hval 0 22 v0 rfl rfl) h0
  obtain ⟨m, rfl, rfl, rfl, im⟩ := open_int Try.underlying3 (hval 1 3 v1 rfl rfl) h1
  clear hA0
  refine (law_any tA tC t m (wf_i im) W lt).mono fun e W' ⟨he, bel⟩ => ?_
  subst he
  exact ⟨_, rfl, _, _, _, [], _, [], hW', trodAll_mk1 (shut_bool Try.underlying4 _), (trodAll_cons_mk (shutt W' (fun b => decide (b < W.heap.size)) bel (fun q hq => hold q (by simp [hq]))) (trodAll_cons_mk (shut_int Try.underlying3 im) trodAll_mk0)), rfl, bel.frame _, fun h => by cases h⟩

theorem reads (os : Os) {H : Type} (enc : TypeId × Value → H) : ∃ places, DataW.whole enc Try.prog ((laidWorld os).forCall (fun _ _ => 0) ⟨#[], #[.slice none 0 0, .int .i64 0], []⟩).memory Try.f3.params.toList Rows.sunDaysSpec.vars false (#[.slice none 0 0, .int .i64 0] : Array Value).toList 8 = some ([.nil, .lit (.int .i64 0)], [], places) :=
  ⟨[], by kernel_rfl⟩

set_option maxRecDepth 100000 in
theorem lifted (os : Os) (started : os.Started) (H : Type) (enc : TypeId × Value → H) (F : Stop.Interp) :
    ReturnsInHanded {} Try.checked os 3 .any ((OpenSpec.ofChange Rows.sunDaysSpec).preRow enc Try.prog Try.f3 Rows.sunDaysRow.domain false Rows.sunDaysRow.laid) (((OpenSpec.ofChange Rows.sunDaysSpec).at F).post enc Try.prog Try.f3 false true false false) := by
  obtain ⟨places, hx⟩ := reads os enc
  refine returnsInHanded_of_row (C := Try.checked) (s := OpenSpec.ofChange Rows.sunDaysSpec) own started (by kernel_rfl) Try.func3
    (witness_row_atRef (enc := enc) (C := Try.checked) false (laidWorld os) #[.slice none 0 0, .int .i64 0] rfl (by kernel_rfl) (by kernel_rfl) (by kernel_rfl)
      (OpenSpec.preRow_of_cond 8 hx (by kernel_rfl) (fun k hk => by cases hk) (by kernel_rfl) (laidWorld_met os _))) ?_
  intro W base args ds gs before hval hW _ hcond _ hL hsh _
  exact contract H enc W base args ds gs before hval hW

/-- The statement. -/
theorem said : Rows.SunDaysSaid :=
  OpenClaim.holds_of_cond 3 Try.f3 rfl rfl rfl rfl rfl rfl rfl ⟨rfl, rfl, rfl, rfl, rfl⟩ rfl rfl rfl rfl rfl (by kernel_rfl) Try.func3 (by kernel_rfl)
    (of_decide_eq_true (by kernel_rfl)) (by unfold Func.isWrapper; first | (rw [if_pos (by decide +kernel)]; kernel_rfl) | (rw [if_neg (by decide +kernel)]; exact ⟨rfl, rfl⟩))
    (fun os started H enc _ F => by rw [OpenClaim.pre_eq_preRow]; exact lifted os started H enc F)
end Go.Proofs.Ytjjimbaogpmbmaa.LawDays
