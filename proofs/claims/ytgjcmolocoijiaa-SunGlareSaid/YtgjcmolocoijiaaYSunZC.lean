/-
  Package sun: Shaded, Glare.
-/
import Derived.Test.YtgjcmolocoijiaaYSunZB
namespace Go.Proofs.Ytgjcmolocoijiaa
open Go.RowKit Go.Sort
open Go.RowKit (Below)
set_option linter.unusedVariables false
set_option linter.unusedSimpArgs false
attribute [local go_sem] Oper.semAt_some

theorem end_ne {ex ey ez x y z : Int} (h : ¬ (x = 0 ∧ y = 0 ∧ z = 0)) : ¬ (ex + x = ex ∧ ey + y = ey ∧ ez + z = ez) := fun ⟨a, b, c⟩ => h ⟨by omega, by omega, by omega⟩
theorem df_of1 {T : List Q4} {m ex ey ez : Int} {L : List Bv} (h : L.length ≤ 60) (hn : ¬ Ok1 T m ex ey ez L) : DfR T m L [⟨ex, ey, ez⟩] 0 0 0 false 1 := by
  by_cases k : (∀ k, k < [(⟨ex, ey, ez⟩ : P3)].length → vv (gd3 [⟨ex, ey, ez⟩] k).a (gd3 [⟨ex, ey, ez⟩] k).b (gd3 [⟨ex, ey, ez⟩] k).c = true) ∧ Bds L
  · exact Or.inr (Or.inr ⟨h, k.1, k.2, Or.inr ⟨fun hm => hn ⟨hm, vv_iff.1 (k.1 0 (by simp)), k.2⟩, rfl, rfl, rfl, rfl, rfl⟩⟩)
  · exact Or.inr (Or.inl ⟨h, k, rfl, rfl, rfl, rfl, rfl⟩)
theorem df_ok1 {T : List Q4} {m ex ey ez x y z : Int} {L : List Bv} (h : L.length ≤ 60) (hn : Ok1 T m ex ey ez L) (hd : Dir T m x y z) : DfR T m L [⟨ex, ey, ez⟩] x y z (decide (0 < z)) 0 :=
  Or.inr (Or.inr ⟨h, (one_of (vv_iff.2 hn.2.1)), hn.2.2, Or.inl ⟨hn.1, rfl, hd, rfl⟩⟩)
theorem df_of2 {T : List Q4} {m ex ey ez tx ty tz : Int} {L : List Bv} (h : L.length ≤ 60) (hn : ¬ (Mok T m ∧ V3 ex ey ez ∧ V3 tx ty tz ∧ Bds L)) : DfR T m L [⟨ex, ey, ez⟩, ⟨tx, ty, tz⟩] 0 0 0 false 1 := by
  by_cases k : (∀ k, k < [(⟨ex, ey, ez⟩ : P3), ⟨tx, ty, tz⟩].length → vv (gd3 [⟨ex, ey, ez⟩, ⟨tx, ty, tz⟩] k).a (gd3 [⟨ex, ey, ez⟩, ⟨tx, ty, tz⟩] k).b (gd3 [⟨ex, ey, ez⟩, ⟨tx, ty, tz⟩] k).c = true) ∧ Bds L
  · exact Or.inr (Or.inr ⟨h, k.1, k.2, Or.inr ⟨fun hm => hn ⟨hm, vv_iff.1 (k.1 0 (by simp)), vv_iff.1 (k.1 1 (by simp)), k.2⟩, rfl, rfl, rfl, rfl, rfl⟩⟩)
  · exact Or.inr (Or.inl ⟨h, k, rfl, rfl, rfl, rfl, rfl⟩)
theorem df_ok2 {T : List Q4} {m ex ey ez tx ty tz x y z : Int} {L : List Bv} (h : L.length ≤ 60) (hm : Mok T m) (he : V3 ex ey ez) (ht : V3 tx ty tz) (hb : Bds L) (hd : Dir T m x y z) : DfR T m L [⟨ex, ey, ez⟩, ⟨tx, ty, tz⟩] x y z (decide (0 < z)) 0 :=
  Or.inr (Or.inr ⟨h, (fun k hk => by
    have : k = 0 ∨ k = 1 := by simp at hk; omega
    rcases this with rfl | rfl
    · exact vv_iff.2 he
    · exact vv_iff.2 ht), hb, Or.inl ⟨hm, rfl, hd, rfl⟩⟩)
set_option maxRecDepth 100000 in
set_option maxHeartbeats 2000000 in
theorem shd_0 (A : Option Addr) (C : Nat) (T : List Q4) (m ex ey ez : Int) (B : Option Addr) (D : Nat) (L : List Bv) (h4 : T.length ≤ 9223372036854775807) (h5 : L.length ≤ 9223372036854775807) (x y z : Int) (hd : DfR T m L [⟨ex, ey, ez⟩] x y z false 2) (w : World) (hl : S4 w A T) (hm : BdS w B L) :
    Calls Try.prog 43 #[.slice A T.length C, .int .i64 m, .agg #[.int .i64 ex, .int .i64 ey, .int .i64 ez], .slice B L.length D] w fun e_ w' => e_ = .returned (.tuple #[.bool false, .int .i64 2]) ∧ Below w.heap.size w w' := by
  have CD := Lib.hid (fun g W (a : S4 W A T) (b : S3 W (some ⟨g, 0, none⟩) [⟨ex, ey, ez⟩]) (c : BdS W B L) => df_is A C T m B D L (some ⟨g, 0, none⟩) 1 [⟨ex, ey, ez⟩] h4 h5 (by simp) (fun h => by rcases hd with ⟨k, _⟩ | ⟨_, _, _, _, _, _, k⟩ | ⟨_, _, _, ⟨_, k, _⟩ | ⟨_, k, _⟩⟩ <;> first | omega | cases k) x y z false 2 hd W a b c)
  simp only [List.length_cons, List.length_nil, Nat.zero_add, Nat.reduceAdd] at CD
  clear hd
  have HL := Lib.hid hl
  clear hl
  have HM := Lib.hid hm
  clear hm
  have p0 : World.cell? (w.alloc (.cells #[.int .i64 ex, .int .i64 ey, .int .i64 ez] 27)) ⟨w.heap.size, 0, none⟩ = some (.int .i64 ex) := by simp [go_sem]
  have p1 : World.cell? (w.alloc (.cells #[.int .i64 ex, .int .i64 ey, .int .i64 ez] 27)) ⟨w.heap.size, 1, none⟩ = some (.int .i64 ey) := by simp [go_sem]
  have p2 : World.cell? (w.alloc (.cells #[.int .i64 ex, .int .i64 ey, .int .i64 ez] 27)) ⟨w.heap.size, 2, none⟩ = some (.int .i64 ez) := by simp [go_sem]
  have lp : w.heap.size < (w.alloc (.cells #[.int .i64 ex, .int .i64 ey, .int .i64 ez] 27)).heap.size := by simp <;> omega
  have HB := Lib.hid (show Below w.heap.size w (w.alloc (.cells #[.int .i64 ex, .int .i64 ey, .int .i64 ez] 27)) from ((Below.refl _ _).alloc (by simp <;> omega) _))
  go_enter Try.func43, Try.ntmps43
  go_upto_region 1 with fail
  generalize w.alloc (.cells #[.int .i64 ex, .int .i64 ey, .int .i64 ez] 27) = w1 at *
  replace HL := Lib.hid (HL.out.below HB.out)
  replace HM := Lib.hid (HM.out.below HB.out)
  go_wp2_with fail
  have v0 : World.cell? (w1.alloc (.cells #[.int .i64 ex, .int .i64 ey, .int .i64 ez] 27)) ⟨w1.heap.size, 0, none⟩ = some (.int .i64 ex) := by simp [go_sem]
  have v1 : World.cell? (w1.alloc (.cells #[.int .i64 ex, .int .i64 ey, .int .i64 ez] 27)) ⟨w1.heap.size, 1, none⟩ = some (.int .i64 ey) := by simp [go_sem]
  have v2 : World.cell? (w1.alloc (.cells #[.int .i64 ex, .int .i64 ey, .int .i64 ez] 27)) ⟨w1.heap.size, 2, none⟩ = some (.int .i64 ez) := by simp [go_sem]
  have lv : w1.heap.size < (w1.alloc (.cells #[.int .i64 ex, .int .i64 ey, .int .i64 ez] 27)).heap.size := by simp
  have hb : Below w1.heap.size w1 (w1.alloc (.cells #[.int .i64 ex, .int .i64 ey, .int .i64 ez] 27)) := below_new _ _
  generalize w1.alloc (.cells #[.int .i64 ex, .int .i64 ey, .int .i64 ez] 27) = w2 at *
  replace HB := Lib.hid (on_below HB.out hb)
  replace HL := Lib.hid (HL.out.below hb)
  replace HM := Lib.hid (HM.out.below hb)
  replace p0 := keepc hb p0
  replace p1 := keepc hb p1
  replace p2 := keepc hb p2
  replace lp := Nat.lt_of_lt_of_le lp hb.size
  clear hb
  generalize w1.heap.size = gv at *
  with_reducible refine (CD.out _ _ HL.out (s3_one v0 v1 v2) HM.out).mono ?_
  rintro e_ w3 ⟨rfl, hb⟩
  replace HB := Lib.hid (on_below HB.out hb)
  replace HL := Lib.hid (HL.out.below hb)
  replace HM := Lib.hid (HM.out.below hb)
  replace p0 := keepc hb p0
  replace p1 := keepc hb p1
  replace p2 := keepc hb p2
  replace v0 := keepc hb v0
  replace v1 := keepc hb v1
  replace v2 := keepc hb v2
  replace lp := Nat.lt_of_lt_of_le lp hb.size
  replace lv := Nat.lt_of_lt_of_le lv hb.size
  clear hb
  go_wp2_with fail
  have d0 : World.cell? (w3.alloc (.cells #[.int .i64 x, .int .i64 y, .int .i64 z] 27)) ⟨w3.heap.size, 0, none⟩ = some (.int .i64 x) := by simp [go_sem]
  have d1 : World.cell? (w3.alloc (.cells #[.int .i64 x, .int .i64 y, .int .i64 z] 27)) ⟨w3.heap.size, 1, none⟩ = some (.int .i64 y) := by simp [go_sem]
  have d2 : World.cell? (w3.alloc (.cells #[.int .i64 x, .int .i64 y, .int .i64 z] 27)) ⟨w3.heap.size, 2, none⟩ = some (.int .i64 z) := by simp [go_sem]
  have ld : w3.heap.size < (w3.alloc (.cells #[.int .i64 x, .int .i64 y, .int .i64 z] 27)).heap.size := by simp
  have hb : Below w3.heap.size w3 (w3.alloc (.cells #[.int .i64 x, .int .i64 y, .int .i64 z] 27)) := below_new _ _
  generalize w3.alloc (.cells #[.int .i64 x, .int .i64 y, .int .i64 z] 27) = w4 at *
  replace HB := Lib.hid (on_below HB.out hb)
  replace HL := Lib.hid (HL.out.below hb)
  replace HM := Lib.hid (HM.out.below hb)
  replace p0 := keepc hb p0
  replace p1 := keepc hb p1
  replace p2 := keepc hb p2
  replace v0 := keepc hb v0
  replace v1 := keepc hb v1
  replace v2 := keepc hb v2
  replace lp := Nat.lt_of_lt_of_le lp hb.size
  replace lv := Nat.lt_of_lt_of_le lv hb.size
  clear hb
  generalize w3.heap.size = gd at *
  go_ret2
  exact ⟨rfl, HB.out⟩
set_option maxRecDepth 100000 in
set_option maxHeartbeats 2000000 in
theorem shd_1 (A : Option Addr) (C : Nat) (T : List Q4) (m ex ey ez : Int) (B : Option Addr) (D : Nat) (L : List Bv) (h4 : T.length ≤ 9223372036854775807) (h5 : L.length ≤ 9223372036854775807) (hs : Bsm L) (x y z : Int) (hd : DfR T m L [⟨ex, ey, ez⟩] x y z false 1) (w : World) (hl : S4 w A T) (hm : BdS w B L) :
    Calls Try.prog 43 #[.slice A T.length C, .int .i64 m, .agg #[.int .i64 ex, .int .i64 ey, .int .i64 ez], .slice B L.length D] w fun e_ w' => e_ = .returned (.tuple #[.bool false, .int .i64 1]) ∧ Below w.heap.size w w' := by
  have CD := Lib.hid (fun g W (a : S4 W A T) (b : S3 W (some ⟨g, 0, none⟩) [⟨ex, ey, ez⟩]) (c : BdS W B L) => df_is A C T m B D L (some ⟨g, 0, none⟩) 1 [⟨ex, ey, ez⟩] h4 h5 (by simp) (fun _ => hs) x y z false 1 hd W a b c)
  simp only [List.length_cons, List.length_nil, Nat.zero_add, Nat.reduceAdd] at CD
  clear hd hs
  have HL := Lib.hid hl
  clear hl
  have HM := Lib.hid hm
  clear hm
  have p0 : World.cell? (w.alloc (.cells #[.int .i64 ex, .int .i64 ey, .int .i64 ez] 27)) ⟨w.heap.size, 0, none⟩ = some (.int .i64 ex) := by simp [go_sem]
  have p1 : World.cell? (w.alloc (.cells #[.int .i64 ex, .int .i64 ey, .int .i64 ez] 27)) ⟨w.heap.size, 1, none⟩ = some (.int .i64 ey) := by simp [go_sem]
  have p2 : World.cell? (w.alloc (.cells #[.int .i64 ex, .int .i64 ey, .int .i64 ez] 27)) ⟨w.heap.size, 2, none⟩ = some (.int .i64 ez) := by simp [go_sem]
  have lp : w.heap.size < (w.alloc (.cells #[.int .i64 ex, .int .i64 ey, .int .i64 ez] 27)).heap.size := by simp <;> omega
  have HB := Lib.hid (show Below w.heap.size w (w.alloc (.cells #[.int .i64 ex, .int .i64 ey, .int .i64 ez] 27)) from ((Below.refl _ _).alloc (by simp <;> omega) _))
  go_enter Try.func43, Try.ntmps43
  go_upto_region 1 with fail
  generalize w.alloc (.cells #[.int .i64 ex, .int .i64 ey, .int .i64 ez] 27) = w1 at *
  replace HL := Lib.hid (HL.out.below HB.out)
  replace HM := Lib.hid (HM.out.below HB.out)
  go_wp2_with fail
  have v0 : World.cell? (w1.alloc (.cells #[.int .i64 ex, .int .i64 ey, .int .i64 ez] 27)) ⟨w1.heap.size, 0, none⟩ = some (.int .i64 ex) := by simp [go_sem]
  have v1 : World.cell? (w1.alloc (.cells #[.int .i64 ex, .int .i64 ey, .int .i64 ez] 27)) ⟨w1.heap.size, 1, none⟩ = some (.int .i64 ey) := by simp [go_sem]
  have v2 : World.cell? (w1.alloc (.cells #[.int .i64 ex, .int .i64 ey, .int .i64 ez] 27)) ⟨w1.heap.size, 2, none⟩ = some (.int .i64 ez) := by simp [go_sem]
  have lv : w1.heap.size < (w1.alloc (.cells #[.int .i64 ex, .int .i64 ey, .int .i64 ez] 27)).heap.size := by simp
  have hb : Below w1.heap.size w1 (w1.alloc (.cells #[.int .i64 ex, .int .i64 ey, .int .i64 ez] 27)) := below_new _ _
  generalize w1.alloc (.cells #[.int .i64 ex, .int .i64 ey, .int .i64 ez] 27) = w2 at *
  replace HB := Lib.hid (on_below HB.out hb)
  replace HL := Lib.hid (HL.out.below hb)
  replace HM := Lib.hid (HM.out.below hb)
  replace p0 := keepc hb p0
  replace p1 := keepc hb p1
  replace p2 := keepc hb p2
  replace lp := Nat.lt_of_lt_of_le lp hb.size
  clear hb
  generalize w1.heap.size = gv at *
  with_reducible refine (CD.out _ _ HL.out (s3_one v0 v1 v2) HM.out).mono ?_
  rintro e_ w3 ⟨rfl, hb⟩
  replace HB := Lib.hid (on_below HB.out hb)
  replace HL := Lib.hid (HL.out.below hb)
  replace HM := Lib.hid (HM.out.below hb)
  replace p0 := keepc hb p0
  replace p1 := keepc hb p1
  replace p2 := keepc hb p2
  replace v0 := keepc hb v0
  replace v1 := keepc hb v1
  replace v2 := keepc hb v2
  replace lp := Nat.lt_of_lt_of_le lp hb.size
  replace lv := Nat.lt_of_lt_of_le lv hb.size
  clear hb
  go_wp2_with fail
  have d0 : World.cell? (w3.alloc (.cells #[.int .i64 x, .int .i64 y, .int .i64 z] 27)) ⟨w3.heap.size, 0, none⟩ = some (.int .i64 x) := by simp [go_sem]
  have d1 : World.cell? (w3.alloc (.cells #[.int .i64 x, .int .i64 y, .int .i64 z] 27)) ⟨w3.heap.size, 1, none⟩ = some (.int .i64 y) := by simp [go_sem]
  have d2 : World.cell? (w3.alloc (.cells #[.int .i64 x, .int .i64 y, .int .i64 z] 27)) ⟨w3.heap.size, 2, none⟩ = some (.int .i64 z) := by simp [go_sem]
  have ld : w3.heap.size < (w3.alloc (.cells #[.int .i64 x, .int .i64 y, .int .i64 z] 27)).heap.size := by simp
  have hb : Below w3.heap.size w3 (w3.alloc (.cells #[.int .i64 x, .int .i64 y, .int .i64 z] 27)) := below_new _ _
  generalize w3.alloc (.cells #[.int .i64 x, .int .i64 y, .int .i64 z] 27) = w4 at *
  replace HB := Lib.hid (on_below HB.out hb)
  replace HL := Lib.hid (HL.out.below hb)
  replace HM := Lib.hid (HM.out.below hb)
  replace p0 := keepc hb p0
  replace p1 := keepc hb p1
  replace p2 := keepc hb p2
  replace v0 := keepc hb v0
  replace v1 := keepc hb v1
  replace v2 := keepc hb v2
  replace lp := Nat.lt_of_lt_of_le lp hb.size
  replace lv := Nat.lt_of_lt_of_le lv hb.size
  clear hb
  generalize w3.heap.size = gd at *
  go_ret2
  exact ⟨rfl, HB.out⟩
set_option maxRecDepth 100000 in
set_option maxHeartbeats 2000000 in
theorem shd_2 (A : Option Addr) (C : Nat) (T : List Q4) (m ex ey ez : Int) (B : Option Addr) (D : Nat) (L : List Bv) (h4 : T.length ≤ 9223372036854775807) (h5 : L.length ≤ 9223372036854775807) (hs : Bsm L) (x y z : Int) (hd : DfR T m L [⟨ex, ey, ez⟩] x y z false 0) (w : World) (hl : S4 w A T) (hm : BdS w B L) :
    Calls Try.prog 43 #[.slice A T.length C, .int .i64 m, .agg #[.int .i64 ex, .int .i64 ey, .int .i64 ez], .slice B L.length D] w fun e_ w' => e_ = .returned (.tuple #[.bool true, .int .i64 0]) ∧ Below w.heap.size w w' := by
  have CD := Lib.hid (fun g W (a : S4 W A T) (b : S3 W (some ⟨g, 0, none⟩) [⟨ex, ey, ez⟩]) (c : BdS W B L) => df_is A C T m B D L (some ⟨g, 0, none⟩) 1 [⟨ex, ey, ez⟩] h4 h5 (by simp) (fun _ => hs) x y z false 0 hd W a b c)
  simp only [List.length_cons, List.length_nil, Nat.zero_add, Nat.reduceAdd] at CD
  clear hd hs
  have HL := Lib.hid hl
  clear hl
  have HM := Lib.hid hm
  clear hm
  have p0 : World.cell? (w.alloc (.cells #[.int .i64 ex, .int .i64 ey, .int .i64 ez] 27)) ⟨w.heap.size, 0, none⟩ = some (.int .i64 ex) := by simp [go_sem]
  have p1 : World.cell? (w.alloc (.cells #[.int .i64 ex, .int .i64 ey, .int .i64 ez] 27)) ⟨w.heap.size, 1, none⟩ = some (.int .i64 ey) := by simp [go_sem]
  have p2 : World.cell? (w.alloc (.cells #[.int .i64 ex, .int .i64 ey, .int .i64 ez] 27)) ⟨w.heap.size, 2, none⟩ = some (.int .i64 ez) := by simp [go_sem]
  have lp : w.heap.size < (w.alloc (.cells #[.int .i64 ex, .int .i64 ey, .int .i64 ez] 27)).heap.size := by simp <;> omega
  have HB := Lib.hid (show Below w.heap.size w (w.alloc (.cells #[.int .i64 ex, .int .i64 ey, .int .i64 ez] 27)) from ((Below.refl _ _).alloc (by simp <;> omega) _))
  go_enter Try.func43, Try.ntmps43
  go_upto_region 1 with fail
  generalize w.alloc (.cells #[.int .i64 ex, .int .i64 ey, .int .i64 ez] 27) = w1 at *
  replace HL := Lib.hid (HL.out.below HB.out)
  replace HM := Lib.hid (HM.out.below HB.out)
  go_wp2_with fail
  have v0 : World.cell? (w1.alloc (.cells #[.int .i64 ex, .int .i64 ey, .int .i64 ez] 27)) ⟨w1.heap.size, 0, none⟩ = some (.int .i64 ex) := by simp [go_sem]
  have v1 : World.cell? (w1.alloc (.cells #[.int .i64 ex, .int .i64 ey, .int .i64 ez] 27)) ⟨w1.heap.size, 1, none⟩ = some (.int .i64 ey) := by simp [go_sem]
  have v2 : World.cell? (w1.alloc (.cells #[.int .i64 ex, .int .i64 ey, .int .i64 ez] 27)) ⟨w1.heap.size, 2, none⟩ = some (.int .i64 ez) := by simp [go_sem]
  have lv : w1.heap.size < (w1.alloc (.cells #[.int .i64 ex, .int .i64 ey, .int .i64 ez] 27)).heap.size := by simp
  have hb : Below w1.heap.size w1 (w1.alloc (.cells #[.int .i64 ex, .int .i64 ey, .int .i64 ez] 27)) := below_new _ _
  generalize w1.alloc (.cells #[.int .i64 ex, .int .i64 ey, .int .i64 ez] 27) = w2 at *
  replace HB := Lib.hid (on_below HB.out hb)
  replace HL := Lib.hid (HL.out.below hb)
  replace HM := Lib.hid (HM.out.below hb)
  replace p0 := keepc hb p0
  replace p1 := keepc hb p1
  replace p2 := keepc hb p2
  replace lp := Nat.lt_of_lt_of_le lp hb.size
  clear hb
  generalize w1.heap.size = gv at *
  with_reducible refine (CD.out _ _ HL.out (s3_one v0 v1 v2) HM.out).mono ?_
  rintro e_ w3 ⟨rfl, hb⟩
  replace HB := Lib.hid (on_below HB.out hb)
  replace HL := Lib.hid (HL.out.below hb)
  replace HM := Lib.hid (HM.out.below hb)
  replace p0 := keepc hb p0
  replace p1 := keepc hb p1
  replace p2 := keepc hb p2
  replace v0 := keepc hb v0
  replace v1 := keepc hb v1
  replace v2 := keepc hb v2
  replace lp := Nat.lt_of_lt_of_le lp hb.size
  replace lv := Nat.lt_of_lt_of_le lv hb.size
  clear hb
  go_wp2_with fail
  have d0 : World.cell? (w3.alloc (.cells #[.int .i64 x, .int .i64 y, .int .i64 z] 27)) ⟨w3.heap.size, 0, none⟩ = some (.int .i64 x) := by simp [go_sem]
  have d1 : World.cell? (w3.alloc (.cells #[.int .i64 x, .int .i64 y, .int .i64 z] 27)) ⟨w3.heap.size, 1, none⟩ = some (.int .i64 y) := by simp [go_sem]
  have d2 : World.cell? (w3.alloc (.cells #[.int .i64 x, .int .i64 y, .int .i64 z] 27)) ⟨w3.heap.size, 2, none⟩ = some (.int .i64 z) := by simp [go_sem]
  have ld : w3.heap.size < (w3.alloc (.cells #[.int .i64 x, .int .i64 y, .int .i64 z] 27)).heap.size := by simp
  have hb : Below w3.heap.size w3 (w3.alloc (.cells #[.int .i64 x, .int .i64 y, .int .i64 z] 27)) := below_new _ _
  generalize w3.alloc (.cells #[.int .i64 x, .int .i64 y, .int .i64 z] 27) = w4 at *
  replace HB := Lib.hid (on_below HB.out hb)
  replace HL := Lib.hid (HL.out.below hb)
  replace HM := Lib.hid (HM.out.below hb)
  replace p0 := keepc hb p0
  replace p1 := keepc hb p1
  replace p2 := keepc hb p2
  replace v0 := keepc hb v0
  replace v1 := keepc hb v1
  replace v2 := keepc hb v2
  replace lp := Nat.lt_of_lt_of_le lp hb.size
  replace lv := Nat.lt_of_lt_of_le lv hb.size
  clear hb
  generalize w3.heap.size = gd at *
  go_ret2
  exact ⟨rfl, HB.out⟩
set_option maxRecDepth 100000 in
set_option maxHeartbeats 2000000 in
theorem shd_3 (A : Option Addr) (C : Nat) (T : List Q4) (m ex ey ez : Int) (B : Option Addr) (D : Nat) (L : List Bv) (h4 : T.length ≤ 9223372036854775807) (h5 : L.length ≤ 9223372036854775807) (hs : Bsm L) (x y z : Int) (hd : DfR T m L [⟨ex, ey, ez⟩] x y z true 0) (he : vv ex ey ez = true) (hx : vv x y z = true) (hn : ¬ (x = 0 ∧ y = 0 ∧ z = 0)) (hb : Bds L) (hv : vv (ex + x) (ey + y) (ez + z) = false) (w : World) (hl : S4 w A T) (hm : BdS w B L) :
    Calls Try.prog 43 #[.slice A T.length C, .int .i64 m, .agg #[.int .i64 ex, .int .i64 ey, .int .i64 ez], .slice B L.length D] w fun e_ w' => e_ = .returned (.tuple #[.bool false, .int .i64 3]) ∧ Below w.heap.size w w' := by
  have CD := Lib.hid (fun g W (a : S4 W A T) (b : S3 W (some ⟨g, 0, none⟩) [⟨ex, ey, ez⟩]) (c : BdS W B L) => df_is A C T m B D L (some ⟨g, 0, none⟩) 1 [⟨ex, ey, ez⟩] h4 h5 (by simp) (fun _ => hs) x y z true 0 hd W a b c)
  simp only [List.length_cons, List.length_nil, Nat.zero_add, Nat.reduceAdd] at CD
  have CW := Lib.hid (fun W => wayfrom_is ex ey ez x y z 0 0 0 3 (by rw [he, hx, hv]; rfl) rfl rfl rfl W)
  clear hd hs he hx hn hb hv
  have HL := Lib.hid hl
  clear hl
  have HM := Lib.hid hm
  clear hm
  have p0 : World.cell? (w.alloc (.cells #[.int .i64 ex, .int .i64 ey, .int .i64 ez] 27)) ⟨w.heap.size, 0, none⟩ = some (.int .i64 ex) := by simp [go_sem]
  have p1 : World.cell? (w.alloc (.cells #[.int .i64 ex, .int .i64 ey, .int .i64 ez] 27)) ⟨w.heap.size, 1, none⟩ = some (.int .i64 ey) := by simp [go_sem]
  have p2 : World.cell? (w.alloc (.cells #[.int .i64 ex, .int .i64 ey, .int .i64 ez] 27)) ⟨w.heap.size, 2, none⟩ = some (.int .i64 ez) := by simp [go_sem]
  have lp : w.heap.size < (w.alloc (.cells #[.int .i64 ex, .int .i64 ey, .int .i64 ez] 27)).heap.size := by simp <;> omega
  have HB := Lib.hid (show Below w.heap.size w (w.alloc (.cells #[.int .i64 ex, .int .i64 ey, .int .i64 ez] 27)) from ((Below.refl _ _).alloc (by simp <;> omega) _))
  go_enter Try.func43, Try.ntmps43
  go_upto_region 1 with fail
  generalize w.alloc (.cells #[.int .i64 ex, .int .i64 ey, .int .i64 ez] 27) = w1 at *
  replace HL := Lib.hid (HL.out.below HB.out)
  replace HM := Lib.hid (HM.out.below HB.out)
  go_wp2_with fail
  have v0 : World.cell? (w1.alloc (.cells #[.int .i64 ex, .int .i64 ey, .int .i64 ez] 27)) ⟨w1.heap.size, 0, none⟩ = some (.int .i64 ex) := by simp [go_sem]
  have v1 : World.cell? (w1.alloc (.cells #[.int .i64 ex, .int .i64 ey, .int .i64 ez] 27)) ⟨w1.heap.size, 1, none⟩ = some (.int .i64 ey) := by simp [go_sem]
  have v2 : World.cell? (w1.alloc (.cells #[.int .i64 ex, .int .i64 ey, .int .i64 ez] 27)) ⟨w1.heap.size, 2, none⟩ = some (.int .i64 ez) := by simp [go_sem]
  have lv : w1.heap.size < (w1.alloc (.cells #[.int .i64 ex, .int .i64 ey, .int .i64 ez] 27)).heap.size := by simp
  have hb : Below w1.heap.size w1 (w1.alloc (.cells #[.int .i64 ex, .int .i64 ey, .int .i64 ez] 27)) := below_new _ _
  generalize w1.alloc (.cells #[.int .i64 ex, .int .i64 ey, .int .i64 ez] 27) = w2 at *
  replace HB := Lib.hid (on_below HB.out hb)
  replace HL := Lib.hid (HL.out.below hb)
  replace HM := Lib.hid (HM.out.below hb)
  replace p0 := keepc hb p0
  replace p1 := keepc hb p1
  replace p2 := keepc hb p2
  replace lp := Nat.lt_of_lt_of_le lp hb.size
  clear hb
  generalize w1.heap.size = gv at *
  with_reducible refine (CD.out _ _ HL.out (s3_one v0 v1 v2) HM.out).mono ?_
  rintro e_ w3 ⟨rfl, hb⟩
  replace HB := Lib.hid (on_below HB.out hb)
  replace HL := Lib.hid (HL.out.below hb)
  replace HM := Lib.hid (HM.out.below hb)
  replace p0 := keepc hb p0
  replace p1 := keepc hb p1
  replace p2 := keepc hb p2
  replace v0 := keepc hb v0
  replace v1 := keepc hb v1
  replace v2 := keepc hb v2
  replace lp := Nat.lt_of_lt_of_le lp hb.size
  replace lv := Nat.lt_of_lt_of_le lv hb.size
  clear hb
  go_wp2_with fail
  have d0 : World.cell? (w3.alloc (.cells #[.int .i64 x, .int .i64 y, .int .i64 z] 27)) ⟨w3.heap.size, 0, none⟩ = some (.int .i64 x) := by simp [go_sem]
  have d1 : World.cell? (w3.alloc (.cells #[.int .i64 x, .int .i64 y, .int .i64 z] 27)) ⟨w3.heap.size, 1, none⟩ = some (.int .i64 y) := by simp [go_sem]
  have d2 : World.cell? (w3.alloc (.cells #[.int .i64 x, .int .i64 y, .int .i64 z] 27)) ⟨w3.heap.size, 2, none⟩ = some (.int .i64 z) := by simp [go_sem]
  have ld : w3.heap.size < (w3.alloc (.cells #[.int .i64 x, .int .i64 y, .int .i64 z] 27)).heap.size := by simp
  have hb : Below w3.heap.size w3 (w3.alloc (.cells #[.int .i64 x, .int .i64 y, .int .i64 z] 27)) := below_new _ _
  generalize w3.alloc (.cells #[.int .i64 x, .int .i64 y, .int .i64 z] 27) = w4 at *
  replace HB := Lib.hid (on_below HB.out hb)
  replace HL := Lib.hid (HL.out.below hb)
  replace HM := Lib.hid (HM.out.below hb)
  replace p0 := keepc hb p0
  replace p1 := keepc hb p1
  replace p2 := keepc hb p2
  replace v0 := keepc hb v0
  replace v1 := keepc hb v1
  replace v2 := keepc hb v2
  replace lp := Nat.lt_of_lt_of_le lp hb.size
  replace lv := Nat.lt_of_lt_of_le lv hb.size
  clear hb
  generalize w3.heap.size = gd at *
  with_reducible refine (CW.out _).mono ?_
  rintro e_ w5 ⟨rfl, hb⟩
  replace HB := Lib.hid (on_below HB.out hb)
  replace HL := Lib.hid (HL.out.below hb)
  replace HM := Lib.hid (HM.out.below hb)
  replace p0 := keepc hb p0
  replace p1 := keepc hb p1
  replace p2 := keepc hb p2
  replace v0 := keepc hb v0
  replace v1 := keepc hb v1
  replace v2 := keepc hb v2
  replace d0 := keepc hb d0
  replace d1 := keepc hb d1
  replace d2 := keepc hb d2
  replace lp := Nat.lt_of_lt_of_le lp hb.size
  replace lv := Nat.lt_of_lt_of_le lv hb.size
  replace ld := Nat.lt_of_lt_of_le ld hb.size
  clear hb
  go_wp2_with fail
  have y0 : World.cell? (w5.alloc (.cells #[.int .i64 ex, .int .i64 ey, .int .i64 ez, .int .i64 0, .int .i64 0, .int .i64 0] 137)) ⟨w5.heap.size, 0, none⟩ = some (.int .i64 ex) := by simp [go_sem]
  have y1 : World.cell? (w5.alloc (.cells #[.int .i64 ex, .int .i64 ey, .int .i64 ez, .int .i64 0, .int .i64 0, .int .i64 0] 137)) ⟨w5.heap.size, 1, none⟩ = some (.int .i64 ey) := by simp [go_sem]
  have y2 : World.cell? (w5.alloc (.cells #[.int .i64 ex, .int .i64 ey, .int .i64 ez, .int .i64 0, .int .i64 0, .int .i64 0] 137)) ⟨w5.heap.size, 2, none⟩ = some (.int .i64 ez) := by simp [go_sem]
  have y3 : World.cell? (w5.alloc (.cells #[.int .i64 ex, .int .i64 ey, .int .i64 ez, .int .i64 0, .int .i64 0, .int .i64 0] 137)) ⟨w5.heap.size, 3, none⟩ = some (.int .i64 0) := by simp [go_sem]
  have y4 : World.cell? (w5.alloc (.cells #[.int .i64 ex, .int .i64 ey, .int .i64 ez, .int .i64 0, .int .i64 0, .int .i64 0] 137)) ⟨w5.heap.size, 4, none⟩ = some (.int .i64 0) := by simp [go_sem]
  have y5 : World.cell? (w5.alloc (.cells #[.int .i64 ex, .int .i64 ey, .int .i64 ez, .int .i64 0, .int .i64 0, .int .i64 0] 137)) ⟨w5.heap.size, 5, none⟩ = some (.int .i64 0) := by simp [go_sem]
  have ly : w5.heap.size < (w5.alloc (.cells #[.int .i64 ex, .int .i64 ey, .int .i64 ez, .int .i64 0, .int .i64 0, .int .i64 0] 137)).heap.size := by simp
  have hb : Below w5.heap.size w5 (w5.alloc (.cells #[.int .i64 ex, .int .i64 ey, .int .i64 ez, .int .i64 0, .int .i64 0, .int .i64 0] 137)) := below_new _ _
  generalize w5.alloc (.cells #[.int .i64 ex, .int .i64 ey, .int .i64 ez, .int .i64 0, .int .i64 0, .int .i64 0] 137) = w6 at *
  replace HB := Lib.hid (on_below HB.out hb)
  replace HL := Lib.hid (HL.out.below hb)
  replace HM := Lib.hid (HM.out.below hb)
  replace p0 := keepc hb p0
  replace p1 := keepc hb p1
  replace p2 := keepc hb p2
  replace v0 := keepc hb v0
  replace v1 := keepc hb v1
  replace v2 := keepc hb v2
  replace d0 := keepc hb d0
  replace d1 := keepc hb d1
  replace d2 := keepc hb d2
  replace lp := Nat.lt_of_lt_of_le lp hb.size
  replace lv := Nat.lt_of_lt_of_le lv hb.size
  replace ld := Nat.lt_of_lt_of_le ld hb.size
  clear hb
  generalize w5.heap.size = gy at *
  go_ret2
  exact ⟨rfl, HB.out⟩
set_option maxRecDepth 100000 in
set_option maxHeartbeats 2000000 in
theorem shd_4 (A : Option Addr) (C : Nat) (T : List Q4) (m ex ey ez : Int) (B : Option Addr) (D : Nat) (L : List Bv) (h4 : T.length ≤ 9223372036854775807) (h5 : L.length ≤ 9223372036854775807) (hs : Bsm L) (x y z : Int) (hd : DfR T m L [⟨ex, ey, ez⟩] x y z true 0) (he : vv ex ey ez = true) (hx : vv x y z = true) (hn : ¬ (x = 0 ∧ y = 0 ∧ z = 0)) (hb : Bds L) (hv : vv (ex + x) (ey + y) (ez + z) = true) (r : Bool) (hr : r = true ↔ ∃ k, k < L.length ∧ hit ex ey ez (ex + x) (ey + y) (ez + z) (gdB L k) = true) (w : World) (hl : S4 w A T) (hm : BdS w B L) :
    Calls Try.prog 43 #[.slice A T.length C, .int .i64 m, .agg #[.int .i64 ex, .int .i64 ey, .int .i64 ez], .slice B L.length D] w fun e_ w' => e_ = .returned (.tuple #[.bool r, .int .i64 0]) ∧ Below w.heap.size w w' := by
  have CD := Lib.hid (fun g W (a : S4 W A T) (b : S3 W (some ⟨g, 0, none⟩) [⟨ex, ey, ez⟩]) (c : BdS W B L) => df_is A C T m B D L (some ⟨g, 0, none⟩) 1 [⟨ex, ey, ez⟩] h4 h5 (by simp) (fun _ => hs) x y z true 0 hd W a b c)
  simp only [List.length_cons, List.length_nil, Nat.zero_add, Nat.reduceAdd] at CD
  have CW := Lib.hid (fun W => wayfrom_is ex ey ez x y z (ex + x) (ey + y) (ez + z) 0 (by rw [he, hx, hv]; rfl) rfl rfl rfl W)
  have CS := Lib.hid (fun W (h : BdS W B L) => shaded_is ex ey ez (ex + x) (ey + y) (ez + z) B D L h5 hs (vv_iff.1 he) (vv_iff.1 hv) (end_ne hn) hb r hr W h)
  generalize ex + x = ux at *
  generalize ey + y = uy at *
  generalize ez + z = uz at *
  clear hd hs he hx hn hb hv hr
  have HL := Lib.hid hl
  clear hl
  have HM := Lib.hid hm
  clear hm
  have p0 : World.cell? (w.alloc (.cells #[.int .i64 ex, .int .i64 ey, .int .i64 ez] 27)) ⟨w.heap.size, 0, none⟩ = some (.int .i64 ex) := by simp [go_sem]
  have p1 : World.cell? (w.alloc (.cells #[.int .i64 ex, .int .i64 ey, .int .i64 ez] 27)) ⟨w.heap.size, 1, none⟩ = some (.int .i64 ey) := by simp [go_sem]
  have p2 : World.cell? (w.alloc (.cells #[.int .i64 ex, .int .i64 ey, .int .i64 ez] 27)) ⟨w.heap.size, 2, none⟩ = some (.int .i64 ez) := by simp [go_sem]
  have lp : w.heap.size < (w.alloc (.cells #[.int .i64 ex, .int .i64 ey, .int .i64 ez] 27)).heap.size := by simp <;> omega
  have HB := Lib.hid (show Below w.heap.size w (w.alloc (.cells #[.int .i64 ex, .int .i64 ey, .int .i64 ez] 27)) from ((Below.refl _ _).alloc (by simp <;> omega) _))
  go_enter Try.func43, Try.ntmps43
  go_upto_region 1 with fail
  generalize w.alloc (.cells #[.int .i64 ex, .int .i64 ey, .int .i64 ez] 27) = w1 at *
  replace HL := Lib.hid (HL.out.below HB.out)
  replace HM := Lib.hid (HM.out.below HB.out)
  go_wp2_with fail
  have v0 : World.cell? (w1.alloc (.cells #[.int .i64 ex, .int .i64 ey, .int .i64 ez] 27)) ⟨w1.heap.size, 0, none⟩ = some (.int .i64 ex) := by simp [go_sem]
  have v1 : World.cell? (w1.alloc (.cells #[.int .i64 ex, .int .i64 ey, .int .i64 ez] 27)) ⟨w1.heap.size, 1, none⟩ = some (.int .i64 ey) := by simp [go_sem]
  have v2 : World.cell? (w1.alloc (.cells #[.int .i64 ex, .int .i64 ey, .int .i64 ez] 27)) ⟨w1.heap.size, 2, none⟩ = some (.int .i64 ez) := by simp [go_sem]
  have lv : w1.heap.size < (w1.alloc (.cells #[.int .i64 ex, .int .i64 ey, .int .i64 ez] 27)).heap.size := by simp
  have hb : Below w1.heap.size w1 (w1.alloc (.cells #[.int .i64 ex, .int .i64 ey, .int .i64 ez] 27)) := below_new _ _
  generalize w1.alloc (.cells #[.int .i64 ex, .int .i64 ey, .int .i64 ez] 27) = w2 at *
  replace HB := Lib.hid (on_below HB.out hb)
  replace HL := Lib.hid (HL.out.below hb)
  replace HM := Lib.hid (HM.out.below hb)
  replace p0 := keepc hb p0
  replace p1 := keepc hb p1
  replace p2 := keepc hb p2
  replace lp := Nat.lt_of_lt_of_le lp hb.size
  clear hb
  generalize w1.heap.size = gv at *
  with_reducible refine (CD.out _ _ HL.out (s3_one v0 v1 v2) HM.out).mono ?_
  rintro e_ w3 ⟨rfl, hb⟩
  replace HB := Lib.hid (on_below HB.out hb)
  replace HL := Lib.hid (HL.out.below hb)
  replace HM := Lib.hid (HM.out.below hb)
  replace p0 := keepc hb p0
  replace p1 := keepc hb p1
  replace p2 := keepc hb p2
  replace v0 := keepc hb v0
  replace v1 := keepc hb v1
  replace v2 := keepc hb v2
  replace lp := Nat.lt_of_lt_of_le lp hb.size
  replace lv := Nat.lt_of_lt_of_le lv hb.size
  clear hb
  go_wp2_with fail
  have d0 : World.cell? (w3.alloc (.cells #[.int .i64 x, .int .i64 y, .int .i64 z] 27)) ⟨w3.heap.size, 0, none⟩ = some (.int .i64 x) := by simp [go_sem]
  have d1 : World.cell? (w3.alloc (.cells #[.int .i64 x, .int .i64 y, .int .i64 z] 27)) ⟨w3.heap.size, 1, none⟩ = some (.int .i64 y) := by simp [go_sem]
  have d2 : World.cell? (w3.alloc (.cells #[.int .i64 x, .int .i64 y, .int .i64 z] 27)) ⟨w3.heap.size, 2, none⟩ = some (.int .i64 z) := by simp [go_sem]
  have ld : w3.heap.size < (w3.alloc (.cells #[.int .i64 x, .int .i64 y, .int .i64 z] 27)).heap.size := by simp
  have hb : Below w3.heap.size w3 (w3.alloc (.cells #[.int .i64 x, .int .i64 y, .int .i64 z] 27)) := below_new _ _
  generalize w3.alloc (.cells #[.int .i64 x, .int .i64 y, .int .i64 z] 27) = w4 at *
  replace HB := Lib.hid (on_below HB.out hb)
  replace HL := Lib.hid (HL.out.below hb)
  replace HM := Lib.hid (HM.out.below hb)
  replace p0 := keepc hb p0
  replace p1 := keepc hb p1
  replace p2 := keepc hb p2
  replace v0 := keepc hb v0
  replace v1 := keepc hb v1
  replace v2 := keepc hb v2
  replace lp := Nat.lt_of_lt_of_le lp hb.size
  replace lv := Nat.lt_of_lt_of_le lv hb.size
  clear hb
  generalize w3.heap.size = gd at *
  with_reducible refine (CW.out _).mono ?_
  rintro e_ w5 ⟨rfl, hb⟩
  replace HB := Lib.hid (on_below HB.out hb)
  replace HL := Lib.hid (HL.out.below hb)
  replace HM := Lib.hid (HM.out.below hb)
  replace p0 := keepc hb p0
  replace p1 := keepc hb p1
  replace p2 := keepc hb p2
  replace v0 := keepc hb v0
  replace v1 := keepc hb v1
  replace v2 := keepc hb v2
  replace d0 := keepc hb d0
  replace d1 := keepc hb d1
  replace d2 := keepc hb d2
  replace lp := Nat.lt_of_lt_of_le lp hb.size
  replace lv := Nat.lt_of_lt_of_le lv hb.size
  replace ld := Nat.lt_of_lt_of_le ld hb.size
  clear hb
  go_wp2_with fail
  have y0 : World.cell? (w5.alloc (.cells #[.int .i64 ex, .int .i64 ey, .int .i64 ez, .int .i64 ux, .int .i64 uy, .int .i64 uz] 137)) ⟨w5.heap.size, 0, none⟩ = some (.int .i64 ex) := by simp [go_sem]
  have y1 : World.cell? (w5.alloc (.cells #[.int .i64 ex, .int .i64 ey, .int .i64 ez, .int .i64 ux, .int .i64 uy, .int .i64 uz] 137)) ⟨w5.heap.size, 1, none⟩ = some (.int .i64 ey) := by simp [go_sem]
  have y2 : World.cell? (w5.alloc (.cells #[.int .i64 ex, .int .i64 ey, .int .i64 ez, .int .i64 ux, .int .i64 uy, .int .i64 uz] 137)) ⟨w5.heap.size, 2, none⟩ = some (.int .i64 ez) := by simp [go_sem]
  have y3 : World.cell? (w5.alloc (.cells #[.int .i64 ex, .int .i64 ey, .int .i64 ez, .int .i64 ux, .int .i64 uy, .int .i64 uz] 137)) ⟨w5.heap.size, 3, none⟩ = some (.int .i64 ux) := by simp [go_sem]
  have y4 : World.cell? (w5.alloc (.cells #[.int .i64 ex, .int .i64 ey, .int .i64 ez, .int .i64 ux, .int .i64 uy, .int .i64 uz] 137)) ⟨w5.heap.size, 4, none⟩ = some (.int .i64 uy) := by simp [go_sem]
  have y5 : World.cell? (w5.alloc (.cells #[.int .i64 ex, .int .i64 ey, .int .i64 ez, .int .i64 ux, .int .i64 uy, .int .i64 uz] 137)) ⟨w5.heap.size, 5, none⟩ = some (.int .i64 uz) := by simp [go_sem]
  have ly : w5.heap.size < (w5.alloc (.cells #[.int .i64 ex, .int .i64 ey, .int .i64 ez, .int .i64 ux, .int .i64 uy, .int .i64 uz] 137)).heap.size := by simp
  have hb : Below w5.heap.size w5 (w5.alloc (.cells #[.int .i64 ex, .int .i64 ey, .int .i64 ez, .int .i64 ux, .int .i64 uy, .int .i64 uz] 137)) := below_new _ _
  generalize w5.alloc (.cells #[.int .i64 ex, .int .i64 ey, .int .i64 ez, .int .i64 ux, .int .i64 uy, .int .i64 uz] 137) = w6 at *
  replace HB := Lib.hid (on_below HB.out hb)
  replace HL := Lib.hid (HL.out.below hb)
  replace HM := Lib.hid (HM.out.below hb)
  replace p0 := keepc hb p0
  replace p1 := keepc hb p1
  replace p2 := keepc hb p2
  replace v0 := keepc hb v0
  replace v1 := keepc hb v1
  replace v2 := keepc hb v2
  replace d0 := keepc hb d0
  replace d1 := keepc hb d1
  replace d2 := keepc hb d2
  replace lp := Nat.lt_of_lt_of_le lp hb.size
  replace lv := Nat.lt_of_lt_of_le lv hb.size
  replace ld := Nat.lt_of_lt_of_le ld hb.size
  clear hb
  generalize w5.heap.size = gy at *
  with_reducible refine (CS.out _ HM.out).mono ?_
  rintro e_ w7 ⟨rfl, hb⟩
  replace HB := Lib.hid (on_below HB.out hb)
  replace HL := Lib.hid (HL.out.below hb)
  replace HM := Lib.hid (HM.out.below hb)
  replace p0 := keepc hb p0
  replace p1 := keepc hb p1
  replace p2 := keepc hb p2
  replace v0 := keepc hb v0
  replace v1 := keepc hb v1
  replace v2 := keepc hb v2
  replace d0 := keepc hb d0
  replace d1 := keepc hb d1
  replace d2 := keepc hb d2
  replace y0 := keepc hb y0
  replace y1 := keepc hb y1
  replace y2 := keepc hb y2
  replace y3 := keepc hb y3
  replace y4 := keepc hb y4
  replace y5 := keepc hb y5
  replace lp := Nat.lt_of_lt_of_le lp hb.size
  replace lv := Nat.lt_of_lt_of_le lv hb.size
  replace ld := Nat.lt_of_lt_of_le ld hb.size
  replace ly := Nat.lt_of_lt_of_le ly hb.size
  clear hb
  go_wp2_with fail
  go_ret2
  exact ⟨rfl, HB.out⟩
theorem shd_00 (A : Option Addr) (C : Nat) (T : List Q4) (m ex ey ez : Int) (B : Option Addr) (D : Nat) (L : List Bv) (h4 : T.length ≤ 9223372036854775807) (h5 : L.length ≤ 9223372036854775807) (h : 60 < L.length) (w : World) (hl : S4 w A T) (hm : BdS w B L) :
    Calls Try.prog 43 #[.slice A T.length C, .int .i64 m, .agg #[.int .i64 ex, .int .i64 ey, .int .i64 ez], .slice B L.length D] w fun e_ w' => e_ = .returned (.tuple #[.bool false, .int .i64 2]) ∧ Below w.heap.size w w' :=
  shd_0 A C T m ex ey ez B D L h4 h5 0 0 0 (Or.inl ⟨h, rfl, rfl, rfl, rfl, rfl⟩) w hl hm
theorem shd_is (A : Option Addr) (C : Nat) (T : List Q4) (m ex ey ez : Int) (B : Option Addr) (D : Nat) (L : List Bv) (h4 : T.length ≤ 9223372036854775807) (h5 : L.length ≤ 9223372036854775807) (hs : L.length ≤ 60 → Bsm L) (r : Bool) (E : Int) (h : ShdR T m ex ey ez L r E) (w : World) (hl : S4 w A T) (hm : BdS w B L) :
    Calls Try.prog 43 #[.slice A T.length C, .int .i64 m, .agg #[.int .i64 ex, .int .i64 ey, .int .i64 ez], .slice B L.length D] w fun e_ w' => e_ = .returned (.tuple #[.bool r, .int .i64 E]) ∧ Below w.heap.size w w' := by
  rcases h with ⟨h, rfl, rfl⟩ | ⟨h, hn, rfl, rfl⟩ | ⟨h, hk, x, y, z, hd, ⟨h1, rfl, rfl⟩ | ⟨h1, h2, rfl, rfl⟩ | ⟨h1, h2, h3, rfl⟩⟩
  · exact shd_00 A C T m ex ey ez B D L h4 h5 h w hl hm
  · exact shd_1 A C T m ex ey ez B D L h4 h5 (hs h) 0 0 0 (df_of1 h hn) w hl hm
  · exact shd_2 A C T m ex ey ez B D L h4 h5 (hs h) x y z (by have := df_ok1 h hk hd; rwa [decide_eq_false (by omega)] at this) w hl hm
  · have hv := dir_v3 hk.1.1 hd
    exact shd_3 A C T m ex ey ez B D L h4 h5 (hs h) x y z (by have := df_ok1 h hk hd; rwa [decide_eq_true h1] at this) (vv_iff.2 hk.2.1) (vv_iff.2 hv.1) hv.2 hk.2.2 h2 w hl hm
  · have hv := dir_v3 hk.1.1 hd
    exact shd_4 A C T m ex ey ez B D L h4 h5 (hs h) x y z (by have := df_ok1 h hk hd; rwa [decide_eq_true h1] at this) (vv_iff.2 hk.2.1) (vv_iff.2 hv.1) hv.2 hk.2.2 h2 r h3 w hl hm
set_option maxRecDepth 100000 in
set_option maxHeartbeats 2000000 in
theorem glr_0 (A : Option Addr) (C : Nat) (T : List Q4) (m ex ey ez tx ty tz N Q : Int) (B : Option Addr) (D : Nat) (L : List Bv) (h4 : T.length ≤ 9223372036854775807) (h5 : L.length ≤ 9223372036854775807) (x y z : Int) (hd : DfR T m L [⟨ex, ey, ez⟩, ⟨tx, ty, tz⟩] x y z false 2) (w : World) (hl : S4 w A T) (hm : BdS w B L) :
    Calls Try.prog 41 #[.slice A T.length C, .int .i64 m, .agg #[.int .i64 ex, .int .i64 ey, .int .i64 ez], .agg #[.int .i64 tx, .int .i64 ty, .int .i64 tz], .agg #[.int .i64 N, .int .i64 Q], .slice B L.length D] w fun e_ w' => e_ = .returned (.tuple #[.bool false, .int .i64 2]) ∧ Below w.heap.size w w' := by
  have CD := Lib.hid (fun g W (a : S4 W A T) (b : S3 W (some ⟨g, 0, none⟩) [⟨ex, ey, ez⟩, ⟨tx, ty, tz⟩]) (c : BdS W B L) => df_is A C T m B D L (some ⟨g, 0, none⟩) 2 [⟨ex, ey, ez⟩, ⟨tx, ty, tz⟩] h4 h5 (by simp) (fun h => by rcases hd with ⟨k, _⟩ | ⟨_, _, _, _, _, _, k⟩ | ⟨_, _, _, ⟨_, k, _⟩ | ⟨_, k, _⟩⟩ <;> first | omega | cases k) x y z false 2 hd W a b c)
  simp only [List.length_cons, List.length_nil, Nat.zero_add, Nat.reduceAdd] at CD
  clear hd
  have HL := Lib.hid hl
  clear hl
  have HM := Lib.hid hm
  clear hm
  have p0 : World.cell? (((w.alloc (.cells #[.int .i64 ex, .int .i64 ey, .int .i64 ez] 27)).alloc (.cells #[.int .i64 tx, .int .i64 ty, .int .i64 tz] 27)).alloc (.cells #[.int .i64 N, .int .i64 Q] 36)) ⟨w.heap.size, 0, none⟩ = some (.int .i64 ex) := by simp [go_sem]
  have p1 : World.cell? (((w.alloc (.cells #[.int .i64 ex, .int .i64 ey, .int .i64 ez] 27)).alloc (.cells #[.int .i64 tx, .int .i64 ty, .int .i64 tz] 27)).alloc (.cells #[.int .i64 N, .int .i64 Q] 36)) ⟨w.heap.size, 1, none⟩ = some (.int .i64 ey) := by simp [go_sem]
  have p2 : World.cell? (((w.alloc (.cells #[.int .i64 ex, .int .i64 ey, .int .i64 ez] 27)).alloc (.cells #[.int .i64 tx, .int .i64 ty, .int .i64 tz] 27)).alloc (.cells #[.int .i64 N, .int .i64 Q] 36)) ⟨w.heap.size, 2, none⟩ = some (.int .i64 ez) := by simp [go_sem]
  have lp : w.heap.size < (((w.alloc (.cells #[.int .i64 ex, .int .i64 ey, .int .i64 ez] 27)).alloc (.cells #[.int .i64 tx, .int .i64 ty, .int .i64 tz] 27)).alloc (.cells #[.int .i64 N, .int .i64 Q] 36)).heap.size := by simp <;> omega
  have q0 : World.cell? (((w.alloc (.cells #[.int .i64 ex, .int .i64 ey, .int .i64 ez] 27)).alloc (.cells #[.int .i64 tx, .int .i64 ty, .int .i64 tz] 27)).alloc (.cells #[.int .i64 N, .int .i64 Q] 36)) ⟨w.heap.size + 1, 0, none⟩ = some (.int .i64 tx) := by simp [go_sem]
  have q1 : World.cell? (((w.alloc (.cells #[.int .i64 ex, .int .i64 ey, .int .i64 ez] 27)).alloc (.cells #[.int .i64 tx, .int .i64 ty, .int .i64 tz] 27)).alloc (.cells #[.int .i64 N, .int .i64 Q] 36)) ⟨w.heap.size + 1, 1, none⟩ = some (.int .i64 ty) := by simp [go_sem]
  have q2 : World.cell? (((w.alloc (.cells #[.int .i64 ex, .int .i64 ey, .int .i64 ez] 27)).alloc (.cells #[.int .i64 tx, .int .i64 ty, .int .i64 tz] 27)).alloc (.cells #[.int .i64 N, .int .i64 Q] 36)) ⟨w.heap.size + 1, 2, none⟩ = some (.int .i64 tz) := by simp [go_sem]
  have lq : w.heap.size + 1 < (((w.alloc (.cells #[.int .i64 ex, .int .i64 ey, .int .i64 ez] 27)).alloc (.cells #[.int .i64 tx, .int .i64 ty, .int .i64 tz] 27)).alloc (.cells #[.int .i64 N, .int .i64 Q] 36)).heap.size := by simp <;> omega
  have o0 : World.cell? (((w.alloc (.cells #[.int .i64 ex, .int .i64 ey, .int .i64 ez] 27)).alloc (.cells #[.int .i64 tx, .int .i64 ty, .int .i64 tz] 27)).alloc (.cells #[.int .i64 N, .int .i64 Q] 36)) ⟨w.heap.size + 1 + 1, 0, none⟩ = some (.int .i64 N) := by simp [go_sem]
  have o1 : World.cell? (((w.alloc (.cells #[.int .i64 ex, .int .i64 ey, .int .i64 ez] 27)).alloc (.cells #[.int .i64 tx, .int .i64 ty, .int .i64 tz] 27)).alloc (.cells #[.int .i64 N, .int .i64 Q] 36)) ⟨w.heap.size + 1 + 1, 1, none⟩ = some (.int .i64 Q) := by simp [go_sem]
  have lo : w.heap.size + 1 + 1 < (((w.alloc (.cells #[.int .i64 ex, .int .i64 ey, .int .i64 ez] 27)).alloc (.cells #[.int .i64 tx, .int .i64 ty, .int .i64 tz] 27)).alloc (.cells #[.int .i64 N, .int .i64 Q] 36)).heap.size := by simp <;> omega
  have HB := Lib.hid (show Below w.heap.size w (((w.alloc (.cells #[.int .i64 ex, .int .i64 ey, .int .i64 ez] 27)).alloc (.cells #[.int .i64 tx, .int .i64 ty, .int .i64 tz] 27)).alloc (.cells #[.int .i64 N, .int .i64 Q] 36)) from ((((Below.refl _ _).alloc (by simp <;> omega) _).alloc (by simp <;> omega) _).alloc (by simp <;> omega) _))
  go_enter Try.func41, Try.ntmps41
  go_upto_region 1 with fail
  generalize ((w.alloc (.cells #[.int .i64 ex, .int .i64 ey, .int .i64 ez] 27)).alloc (.cells #[.int .i64 tx, .int .i64 ty, .int .i64 tz] 27)).alloc (.cells #[.int .i64 N, .int .i64 Q] 36) = w1 at *
  replace HL := Lib.hid (HL.out.below HB.out)
  replace HM := Lib.hid (HM.out.below HB.out)
  go_wp2_with fail
  have v0 : World.cell? (w1.alloc (.cells #[.int .i64 ex, .int .i64 ey, .int .i64 ez, .int .i64 tx, .int .i64 ty, .int .i64 tz] 27)) ⟨w1.heap.size, 0, none⟩ = some (.int .i64 ex) := by simp [go_sem]
  have v1 : World.cell? (w1.alloc (.cells #[.int .i64 ex, .int .i64 ey, .int .i64 ez, .int .i64 tx, .int .i64 ty, .int .i64 tz] 27)) ⟨w1.heap.size, 1, none⟩ = some (.int .i64 ey) := by simp [go_sem]
  have v2 : World.cell? (w1.alloc (.cells #[.int .i64 ex, .int .i64 ey, .int .i64 ez, .int .i64 tx, .int .i64 ty, .int .i64 tz] 27)) ⟨w1.heap.size, 2, none⟩ = some (.int .i64 ez) := by simp [go_sem]
  have v3 : World.cell? (w1.alloc (.cells #[.int .i64 ex, .int .i64 ey, .int .i64 ez, .int .i64 tx, .int .i64 ty, .int .i64 tz] 27)) ⟨w1.heap.size, 3, none⟩ = some (.int .i64 tx) := by simp [go_sem]
  have v4 : World.cell? (w1.alloc (.cells #[.int .i64 ex, .int .i64 ey, .int .i64 ez, .int .i64 tx, .int .i64 ty, .int .i64 tz] 27)) ⟨w1.heap.size, 4, none⟩ = some (.int .i64 ty) := by simp [go_sem]
  have v5 : World.cell? (w1.alloc (.cells #[.int .i64 ex, .int .i64 ey, .int .i64 ez, .int .i64 tx, .int .i64 ty, .int .i64 tz] 27)) ⟨w1.heap.size, 5, none⟩ = some (.int .i64 tz) := by simp [go_sem]
  have lv : w1.heap.size < (w1.alloc (.cells #[.int .i64 ex, .int .i64 ey, .int .i64 ez, .int .i64 tx, .int .i64 ty, .int .i64 tz] 27)).heap.size := by simp
  have hb : Below w1.heap.size w1 (w1.alloc (.cells #[.int .i64 ex, .int .i64 ey, .int .i64 ez, .int .i64 tx, .int .i64 ty, .int .i64 tz] 27)) := below_new _ _
  generalize w1.alloc (.cells #[.int .i64 ex, .int .i64 ey, .int .i64 ez, .int .i64 tx, .int .i64 ty, .int .i64 tz] 27) = w2 at *
  replace HB := Lib.hid (on_below HB.out hb)
  replace HL := Lib.hid (HL.out.below hb)
  replace HM := Lib.hid (HM.out.below hb)
  replace p0 := keepc hb p0
  replace p1 := keepc hb p1
  replace p2 := keepc hb p2
  replace q0 := keepc hb q0
  replace q1 := keepc hb q1
  replace q2 := keepc hb q2
  replace o0 := keepc hb o0
  replace o1 := keepc hb o1
  replace lp := Nat.lt_of_lt_of_le lp hb.size
  replace lq := Nat.lt_of_lt_of_le lq hb.size
  replace lo := Nat.lt_of_lt_of_le lo hb.size
  clear hb
  generalize w1.heap.size = gv at *
  with_reducible refine (CD.out _ _ HL.out (s3_two v0 v1 v2 v3 v4 v5) HM.out).mono ?_
  rintro e_ w3 ⟨rfl, hb⟩
  replace HB := Lib.hid (on_below HB.out hb)
  replace HL := Lib.hid (HL.out.below hb)
  replace HM := Lib.hid (HM.out.below hb)
  replace p0 := keepc hb p0
  replace p1 := keepc hb p1
  replace p2 := keepc hb p2
  replace q0 := keepc hb q0
  replace q1 := keepc hb q1
  replace q2 := keepc hb q2
  replace o0 := keepc hb o0
  replace o1 := keepc hb o1
  replace v0 := keepc hb v0
  replace v1 := keepc hb v1
  replace v2 := keepc hb v2
  replace v3 := keepc hb v3
  replace v4 := keepc hb v4
  replace v5 := keepc hb v5
  replace lp := Nat.lt_of_lt_of_le lp hb.size
  replace lq := Nat.lt_of_lt_of_le lq hb.size
  replace lo := Nat.lt_of_lt_of_le lo hb.size
  replace lv := Nat.lt_of_lt_of_le lv hb.size
  clear hb
  go_wp2_with fail
  have d0 : World.cell? (w3.alloc (.cells #[.int .i64 x, .int .i64 y, .int .i64 z] 27)) ⟨w3.heap.size, 0, none⟩ = some (.int .i64 x) := by simp [go_sem]
  have d1 : World.cell? (w3.alloc (.cells #[.int .i64 x, .int .i64 y, .int .i64 z] 27)) ⟨w3.heap.size, 1, none⟩ = some (.int .i64 y) := by simp [go_sem]
  have d2 : World.cell? (w3.alloc (.cells #[.int .i64 x, .int .i64 y, .int .i64 z] 27)) ⟨w3.heap.size, 2, none⟩ = some (.int .i64 z) := by simp [go_sem]
  have ld : w3.heap.size < (w3.alloc (.cells #[.int .i64 x, .int .i64 y, .int .i64 z] 27)).heap.size := by simp
  have hb : Below w3.heap.size w3 (w3.alloc (.cells #[.int .i64 x, .int .i64 y, .int .i64 z] 27)) := below_new _ _
  generalize w3.alloc (.cells #[.int .i64 x, .int .i64 y, .int .i64 z] 27) = w4 at *
  replace HB := Lib.hid (on_below HB.out hb)
  replace HL := Lib.hid (HL.out.below hb)
  replace HM := Lib.hid (HM.out.below hb)
  replace p0 := keepc hb p0
  replace p1 := keepc hb p1
  replace p2 := keepc hb p2
  replace q0 := keepc hb q0
  replace q1 := keepc hb q1
  replace q2 := keepc hb q2
  replace o0 := keepc hb o0
  replace o1 := keepc hb o1
  replace v0 := keepc hb v0
  replace v1 := keepc hb v1
  replace v2 := keepc hb v2
  replace v3 := keepc hb v3
  replace v4 := keepc hb v4
  replace v5 := keepc hb v5
  replace lp := Nat.lt_of_lt_of_le lp hb.size
  replace lq := Nat.lt_of_lt_of_le lq hb.size
  replace lo := Nat.lt_of_lt_of_le lo hb.size
  replace lv := Nat.lt_of_lt_of_le lv hb.size
  clear hb
  generalize w3.heap.size = gd at *
  go_ret2
  exact ⟨rfl, HB.out⟩
set_option maxRecDepth 100000 in
set_option maxHeartbeats 2000000 in
theorem glr_1 (A : Option Addr) (C : Nat) (T : List Q4) (m ex ey ez tx ty tz N Q : Int) (B : Option Addr) (D : Nat) (L : List Bv) (h4 : T.length ≤ 9223372036854775807) (h5 : L.length ≤ 9223372036854775807) (hs : Bsm L) (x y z : Int) (hd : DfR T m L [⟨ex, ey, ez⟩, ⟨tx, ty, tz⟩] x y z false 1) (w : World) (hl : S4 w A T) (hm : BdS w B L) :
    Calls Try.prog 41 #[.slice A T.length C, .int .i64 m, .agg #[.int .i64 ex, .int .i64 ey, .int .i64 ez], .agg #[.int .i64 tx, .int .i64 ty, .int .i64 tz], .agg #[.int .i64 N, .int .i64 Q], .slice B L.length D] w fun e_ w' => e_ = .returned (.tuple #[.bool false, .int .i64 1]) ∧ Below w.heap.size w w' := by
  have CD := Lib.hid (fun g W (a : S4 W A T) (b : S3 W (some ⟨g, 0, none⟩) [⟨ex, ey, ez⟩, ⟨tx, ty, tz⟩]) (c : BdS W B L) => df_is A C T m B D L (some ⟨g, 0, none⟩) 2 [⟨ex, ey, ez⟩, ⟨tx, ty, tz⟩] h4 h5 (by simp) (fun _ => hs) x y z false 1 hd W a b c)
  simp only [List.length_cons, List.length_nil, Nat.zero_add, Nat.reduceAdd] at CD
  clear hd hs
  have HL := Lib.hid hl
  clear hl
  have HM := Lib.hid hm
  clear hm
  have p0 : World.cell? (((w.alloc (.cells #[.int .i64 ex, .int .i64 ey, .int .i64 ez] 27)).alloc (.cells #[.int .i64 tx, .int .i64 ty, .int .i64 tz] 27)).alloc (.cells #[.int .i64 N, .int .i64 Q] 36)) ⟨w.heap.size, 0, none⟩ = some (.int .i64 ex) := by simp [go_sem]
  have p1 : World.cell? (((w.alloc (.cells #[.int .i64 ex, .int .i64 ey, .int .i64 ez] 27)).alloc (.cells #[.int .i64 tx, .int .i64 ty, .int .i64 tz] 27)).alloc (.cells #[.int .i64 N, .int .i64 Q] 36)) ⟨w.heap.size, 1, none⟩ = some (.int .i64 ey) := by simp [go_sem]
  have p2 : World.cell? (((w.alloc (.cells #[.int .i64 ex, .int .i64 ey, .int .i64 ez] 27)).alloc (.cells #[.int .i64 tx, .int .i64 ty, .int .i64 tz] 27)).alloc (.cells #[.int .i64 N, .int .i64 Q] 36)) ⟨w.heap.size, 2, none⟩ = some (.int .i64 ez) := by simp [go_sem]
  have lp : w.heap.size < (((w.alloc (.cells #[.int .i64 ex, .int .i64 ey, .int .i64 ez] 27)).alloc (.cells #[.int .i64 tx, .int .i64 ty, .int .i64 tz] 27)).alloc (.cells #[.int .i64 N, .int .i64 Q] 36)).heap.size := by simp <;> omega
  have q0 : World.cell? (((w.alloc (.cells #[.int .i64 ex, .int .i64 ey, .int .i64 ez] 27)).alloc (.cells #[.int .i64 tx, .int .i64 ty, .int .i64 tz] 27)).alloc (.cells #[.int .i64 N, .int .i64 Q] 36)) ⟨w.heap.size + 1, 0, none⟩ = some (.int .i64 tx) := by simp [go_sem]
  have q1 : World.cell? (((w.alloc (.cells #[.int .i64 ex, .int .i64 ey, .int .i64 ez] 27)).alloc (.cells #[.int .i64 tx, .int .i64 ty, .int .i64 tz] 27)).alloc (.cells #[.int .i64 N, .int .i64 Q] 36)) ⟨w.heap.size + 1, 1, none⟩ = some (.int .i64 ty) := by simp [go_sem]
  have q2 : World.cell? (((w.alloc (.cells #[.int .i64 ex, .int .i64 ey, .int .i64 ez] 27)).alloc (.cells #[.int .i64 tx, .int .i64 ty, .int .i64 tz] 27)).alloc (.cells #[.int .i64 N, .int .i64 Q] 36)) ⟨w.heap.size + 1, 2, none⟩ = some (.int .i64 tz) := by simp [go_sem]
  have lq : w.heap.size + 1 < (((w.alloc (.cells #[.int .i64 ex, .int .i64 ey, .int .i64 ez] 27)).alloc (.cells #[.int .i64 tx, .int .i64 ty, .int .i64 tz] 27)).alloc (.cells #[.int .i64 N, .int .i64 Q] 36)).heap.size := by simp <;> omega
  have o0 : World.cell? (((w.alloc (.cells #[.int .i64 ex, .int .i64 ey, .int .i64 ez] 27)).alloc (.cells #[.int .i64 tx, .int .i64 ty, .int .i64 tz] 27)).alloc (.cells #[.int .i64 N, .int .i64 Q] 36)) ⟨w.heap.size + 1 + 1, 0, none⟩ = some (.int .i64 N) := by simp [go_sem]
  have o1 : World.cell? (((w.alloc (.cells #[.int .i64 ex, .int .i64 ey, .int .i64 ez] 27)).alloc (.cells #[.int .i64 tx, .int .i64 ty, .int .i64 tz] 27)).alloc (.cells #[.int .i64 N, .int .i64 Q] 36)) ⟨w.heap.size + 1 + 1, 1, none⟩ = some (.int .i64 Q) := by simp [go_sem]
  have lo : w.heap.size + 1 + 1 < (((w.alloc (.cells #[.int .i64 ex, .int .i64 ey, .int .i64 ez] 27)).alloc (.cells #[.int .i64 tx, .int .i64 ty, .int .i64 tz] 27)).alloc (.cells #[.int .i64 N, .int .i64 Q] 36)).heap.size := by simp <;> omega
  have HB := Lib.hid (show Below w.heap.size w (((w.alloc (.cells #[.int .i64 ex, .int .i64 ey, .int .i64 ez] 27)).alloc (.cells #[.int .i64 tx, .int .i64 ty, .int .i64 tz] 27)).alloc (.cells #[.int .i64 N, .int .i64 Q] 36)) from ((((Below.refl _ _).alloc (by simp <;> omega) _).alloc (by simp <;> omega) _).alloc (by simp <;> omega) _))
  go_enter Try.func41, Try.ntmps41
  go_upto_region 1 with fail
  generalize ((w.alloc (.cells #[.int .i64 ex, .int .i64 ey, .int .i64 ez] 27)).alloc (.cells #[.int .i64 tx, .int .i64 ty, .int .i64 tz] 27)).alloc (.cells #[.int .i64 N, .int .i64 Q] 36) = w1 at *
  replace HL := Lib.hid (HL.out.below HB.out)
  replace HM := Lib.hid (HM.out.below HB.out)
  go_wp2_with fail
  have v0 : World.cell? (w1.alloc (.cells #[.int .i64 ex, .int .i64 ey, .int .i64 ez, .int .i64 tx, .int .i64 ty, .int .i64 tz] 27)) ⟨w1.heap.size, 0, none⟩ = some (.int .i64 ex) := by simp [go_sem]
  have v1 : World.cell? (w1.alloc (.cells #[.int .i64 ex, .int .i64 ey, .int .i64 ez, .int .i64 tx, .int .i64 ty, .int .i64 tz] 27)) ⟨w1.heap.size, 1, none⟩ = some (.int .i64 ey) := by simp [go_sem]
  have v2 : World.cell? (w1.alloc (.cells #[.int .i64 ex, .int .i64 ey, .int .i64 ez, .int .i64 tx, .int .i64 ty, .int .i64 tz] 27)) ⟨w1.heap.size, 2, none⟩ = some (.int .i64 ez) := by simp [go_sem]
  have v3 : World.cell? (w1.alloc (.cells #[.int .i64 ex, .int .i64 ey, .int .i64 ez, .int .i64 tx, .int .i64 ty, .int .i64 tz] 27)) ⟨w1.heap.size, 3, none⟩ = some (.int .i64 tx) := by simp [go_sem]
  have v4 : World.cell? (w1.alloc (.cells #[.int .i64 ex, .int .i64 ey, .int .i64 ez, .int .i64 tx, .int .i64 ty, .int .i64 tz] 27)) ⟨w1.heap.size, 4, none⟩ = some (.int .i64 ty) := by simp [go_sem]
  have v5 : World.cell? (w1.alloc (.cells #[.int .i64 ex, .int .i64 ey, .int .i64 ez, .int .i64 tx, .int .i64 ty, .int .i64 tz] 27)) ⟨w1.heap.size, 5, none⟩ = some (.int .i64 tz) := by simp [go_sem]
  have lv : w1.heap.size < (w1.alloc (.cells #[.int .i64 ex, .int .i64 ey, .int .i64 ez, .int .i64 tx, .int .i64 ty, .int .i64 tz] 27)).heap.size := by simp
  have hb : Below w1.heap.size w1 (w1.alloc (.cells #[.int .i64 ex, .int .i64 ey, .int .i64 ez, .int .i64 tx, .int .i64 ty, .int .i64 tz] 27)) := below_new _ _
  generalize w1.alloc (.cells #[.int .i64 ex, .int .i64 ey, .int .i64 ez, .int .i64 tx, .int .i64 ty, .int .i64 tz] 27) = w2 at *
  replace HB := Lib.hid (on_below HB.out hb)
  replace HL := Lib.hid (HL.out.below hb)
  replace HM := Lib.hid (HM.out.below hb)
  replace p0 := keepc hb p0
  replace p1 := keepc hb p1
  replace p2 := keepc hb p2
  replace q0 := keepc hb q0
  replace q1 := keepc hb q1
  replace q2 := keepc hb q2
  replace o0 := keepc hb o0
  replace o1 := keepc hb o1
  replace lp := Nat.lt_of_lt_of_le lp hb.size
  replace lq := Nat.lt_of_lt_of_le lq hb.size
  replace lo := Nat.lt_of_lt_of_le lo hb.size
  clear hb
  generalize w1.heap.size = gv at *
  with_reducible refine (CD.out _ _ HL.out (s3_two v0 v1 v2 v3 v4 v5) HM.out).mono ?_
  rintro e_ w3 ⟨rfl, hb⟩
  replace HB := Lib.hid (on_below HB.out hb)
  replace HL := Lib.hid (HL.out.below hb)
  replace HM := Lib.hid (HM.out.below hb)
  replace p0 := keepc hb p0
  replace p1 := keepc hb p1
  replace p2 := keepc hb p2
  replace q0 := keepc hb q0
  replace q1 := keepc hb q1
  replace q2 := keepc hb q2
  replace o0 := keepc hb o0
  replace o1 := keepc hb o1
  replace v0 := keepc hb v0
  replace v1 := keepc hb v1
  replace v2 := keepc hb v2
  replace v3 := keepc hb v3
  replace v4 := keepc hb v4
  replace v5 := keepc hb v5
  replace lp := Nat.lt_of_lt_of_le lp hb.size
  replace lq := Nat.lt_of_lt_of_le lq hb.size
  replace lo := Nat.lt_of_lt_of_le lo hb.size
  replace lv := Nat.lt_of_lt_of_le lv hb.size
  clear hb
  go_wp2_with fail
  have d0 : World.cell? (w3.alloc (.cells #[.int .i64 x, .int .i64 y, .int .i64 z] 27)) ⟨w3.heap.size, 0, none⟩ = some (.int .i64 x) := by simp [go_sem]
  have d1 : World.cell? (w3.alloc (.cells #[.int .i64 x, .int .i64 y, .int .i64 z] 27)) ⟨w3.heap.size, 1, none⟩ = some (.int .i64 y) := by simp [go_sem]
  have d2 : World.cell? (w3.alloc (.cells #[.int .i64 x, .int .i64 y, .int .i64 z] 27)) ⟨w3.heap.size, 2, none⟩ = some (.int .i64 z) := by simp [go_sem]
  have ld : w3.heap.size < (w3.alloc (.cells #[.int .i64 x, .int .i64 y, .int .i64 z] 27)).heap.size := by simp
  have hb : Below w3.heap.size w3 (w3.alloc (.cells #[.int .i64 x, .int .i64 y, .int .i64 z] 27)) := below_new _ _
  generalize w3.alloc (.cells #[.int .i64 x, .int .i64 y, .int .i64 z] 27) = w4 at *
  replace HB := Lib.hid (on_below HB.out hb)
  replace HL := Lib.hid (HL.out.below hb)
  replace HM := Lib.hid (HM.out.below hb)
  replace p0 := keepc hb p0
  replace p1 := keepc hb p1
  replace p2 := keepc hb p2
  replace q0 := keepc hb q0
  replace q1 := keepc hb q1
  replace q2 := keepc hb q2
  replace o0 := keepc hb o0
  replace o1 := keepc hb o1
  replace v0 := keepc hb v0
  replace v1 := keepc hb v1
  replace v2 := keepc hb v2
  replace v3 := keepc hb v3
  replace v4 := keepc hb v4
  replace v5 := keepc hb v5
  replace lp := Nat.lt_of_lt_of_le lp hb.size
  replace lq := Nat.lt_of_lt_of_le lq hb.size
  replace lo := Nat.lt_of_lt_of_le lo hb.size
  replace lv := Nat.lt_of_lt_of_le lv hb.size
  clear hb
  generalize w3.heap.size = gd at *
  go_ret2
  exact ⟨rfl, HB.out⟩
set_option maxRecDepth 100000 in
set_option maxHeartbeats 2000000 in
theorem glr_2 (A : Option Addr) (C : Nat) (T : List Q4) (m ex ey ez tx ty tz N Q : Int) (B : Option Addr) (D : Nat) (L : List Bv) (h4 : T.length ≤ 9223372036854775807) (h5 : L.length ≤ 9223372036854775807) (hs : Bsm L) (x y z : Int) (u : Bool) (hd : DfR T m L [⟨ex, ey, ez⟩, ⟨tx, ty, tz⟩] x y z u 0) (iN : I64 N) (iQ : I64 Q) (hq : shr N Q = false) (w : World) (hl : S4 w A T) (hm : BdS w B L) :
    Calls Try.prog 41 #[.slice A T.length C, .int .i64 m, .agg #[.int .i64 ex, .int .i64 ey, .int .i64 ez], .agg #[.int .i64 tx, .int .i64 ty, .int .i64 tz], .agg #[.int .i64 N, .int .i64 Q], .slice B L.length D] w fun e_ w' => e_ = .returned (.tuple #[.bool false, .int .i64 1]) ∧ Below w.heap.size w w' := by
  have CD := Lib.hid (fun g W (a : S4 W A T) (b : S3 W (some ⟨g, 0, none⟩) [⟨ex, ey, ez⟩, ⟨tx, ty, tz⟩]) (c : BdS W B L) => df_is A C T m B D L (some ⟨g, 0, none⟩) 2 [⟨ex, ey, ez⟩, ⟨tx, ty, tz⟩] h4 h5 (by simp) (fun _ => hs) x y z u 0 hd W a b c)
  simp only [List.length_cons, List.length_nil, Nat.zero_add, Nat.reduceAdd] at CD
  have CI := Lib.hid (fun W => isshare_is N Q false iN iQ hq W)
  clear hd hs iN iQ hq
  have HL := Lib.hid hl
  clear hl
  have HM := Lib.hid hm
  clear hm
  have p0 : World.cell? (((w.alloc (.cells #[.int .i64 ex, .int .i64 ey, .int .i64 ez] 27)).alloc (.cells #[.int .i64 tx, .int .i64 ty, .int .i64 tz] 27)).alloc (.cells #[.int .i64 N, .int .i64 Q] 36)) ⟨w.heap.size, 0, none⟩ = some (.int .i64 ex) := by simp [go_sem]
  have p1 : World.cell? (((w.alloc (.cells #[.int .i64 ex, .int .i64 ey, .int .i64 ez] 27)).alloc (.cells #[.int .i64 tx, .int .i64 ty, .int .i64 tz] 27)).alloc (.cells #[.int .i64 N, .int .i64 Q] 36)) ⟨w.heap.size, 1, none⟩ = some (.int .i64 ey) := by simp [go_sem]
  have p2 : World.cell? (((w.alloc (.cells #[.int .i64 ex, .int .i64 ey, .int .i64 ez] 27)).alloc (.cells #[.int .i64 tx, .int .i64 ty, .int .i64 tz] 27)).alloc (.cells #[.int .i64 N, .int .i64 Q] 36)) ⟨w.heap.size, 2, none⟩ = some (.int .i64 ez) := by simp [go_sem]
  have lp : w.heap.size < (((w.alloc (.cells #[.int .i64 ex, .int .i64 ey, .int .i64 ez] 27)).alloc (.cells #[.int .i64 tx, .int .i64 ty, .int .i64 tz] 27)).alloc (.cells #[.int .i64 N, .int .i64 Q] 36)).heap.size := by simp <;> omega
  have q0 : World.cell? (((w.alloc (.cells #[.int .i64 ex, .int .i64 ey, .int .i64 ez] 27)).alloc (.cells #[.int .i64 tx, .int .i64 ty, .int .i64 tz] 27)).alloc (.cells #[.int .i64 N, .int .i64 Q] 36)) ⟨w.heap.size + 1, 0, none⟩ = some (.int .i64 tx) := by simp [go_sem]
  have q1 : World.cell? (((w.alloc (.cells #[.int .i64 ex, .int .i64 ey, .int .i64 ez] 27)).alloc (.cells #[.int .i64 tx, .int .i64 ty, .int .i64 tz] 27)).alloc (.cells #[.int .i64 N, .int .i64 Q] 36)) ⟨w.heap.size + 1, 1, none⟩ = some (.int .i64 ty) := by simp [go_sem]
  have q2 : World.cell? (((w.alloc (.cells #[.int .i64 ex, .int .i64 ey, .int .i64 ez] 27)).alloc (.cells #[.int .i64 tx, .int .i64 ty, .int .i64 tz] 27)).alloc (.cells #[.int .i64 N, .int .i64 Q] 36)) ⟨w.heap.size + 1, 2, none⟩ = some (.int .i64 tz) := by simp [go_sem]
  have lq : w.heap.size + 1 < (((w.alloc (.cells #[.int .i64 ex, .int .i64 ey, .int .i64 ez] 27)).alloc (.cells #[.int .i64 tx, .int .i64 ty, .int .i64 tz] 27)).alloc (.cells #[.int .i64 N, .int .i64 Q] 36)).heap.size := by simp <;> omega
  have o0 : World.cell? (((w.alloc (.cells #[.int .i64 ex, .int .i64 ey, .int .i64 ez] 27)).alloc (.cells #[.int .i64 tx, .int .i64 ty, .int .i64 tz] 27)).alloc (.cells #[.int .i64 N, .int .i64 Q] 36)) ⟨w.heap.size + 1 + 1, 0, none⟩ = some (.int .i64 N) := by simp [go_sem]
  have o1 : World.cell? (((w.alloc (.cells #[.int .i64 ex, .int .i64 ey, .int .i64 ez] 27)).alloc (.cells #[.int .i64 tx, .int .i64 ty, .int .i64 tz] 27)).alloc (.cells #[.int .i64 N, .int .i64 Q] 36)) ⟨w.heap.size + 1 + 1, 1, none⟩ = some (.int .i64 Q) := by simp [go_sem]
  have lo : w.heap.size + 1 + 1 < (((w.alloc (.cells #[.int .i64 ex, .int .i64 ey, .int .i64 ez] 27)).alloc (.cells #[.int .i64 tx, .int .i64 ty, .int .i64 tz] 27)).alloc (.cells #[.int .i64 N, .int .i64 Q] 36)).heap.size := by simp <;> omega
  have HB := Lib.hid (show Below w.heap.size w (((w.alloc (.cells #[.int .i64 ex, .int .i64 ey, .int .i64 ez] 27)).alloc (.cells #[.int .i64 tx, .int .i64 ty, .int .i64 tz] 27)).alloc (.cells #[.int .i64 N, .int .i64 Q] 36)) from ((((Below.refl _ _).alloc (by simp <;> omega) _).alloc (by simp <;> omega) _).alloc (by simp <;> omega) _))
  go_enter Try.func41, Try.ntmps41
  go_upto_region 1 with fail
  generalize ((w.alloc (.cells #[.int .i64 ex, .int .i64 ey, .int .i64 ez] 27)).alloc (.cells #[.int .i64 tx, .int .i64 ty, .int .i64 tz] 27)).alloc (.cells #[.int .i64 N, .int .i64 Q] 36) = w1 at *
  replace HL := Lib.hid (HL.out.below HB.out)
  replace HM := Lib.hid (HM.out.below HB.out)
  go_wp2_with fail
  have v0 : World.cell? (w1.alloc (.cells #[.int .i64 ex, .int .i64 ey, .int .i64 ez, .int .i64 tx, .int .i64 ty, .int .i64 tz] 27)) ⟨w1.heap.size, 0, none⟩ = some (.int .i64 ex) := by simp [go_sem]
  have v1 : World.cell? (w1.alloc (.cells #[.int .i64 ex, .int .i64 ey, .int .i64 ez, .int .i64 tx, .int .i64 ty, .int .i64 tz] 27)) ⟨w1.heap.size, 1, none⟩ = some (.int .i64 ey) := by simp [go_sem]
  have v2 : World.cell? (w1.alloc (.cells #[.int .i64 ex, .int .i64 ey, .int .i64 ez, .int .i64 tx, .int .i64 ty, .int .i64 tz] 27)) ⟨w1.heap.size, 2, none⟩ = some (.int .i64 ez) := by simp [go_sem]
  have v3 : World.cell? (w1.alloc (.cells #[.int .i64 ex, .int .i64 ey, .int .i64 ez, .int .i64 tx, .int .i64 ty, .int .i64 tz] 27)) ⟨w1.heap.size, 3, none⟩ = some (.int .i64 tx) := by simp [go_sem]
  have v4 : World.cell? (w1.alloc (.cells #[.int .i64 ex, .int .i64 ey, .int .i64 ez, .int .i64 tx, .int .i64 ty, .int .i64 tz] 27)) ⟨w1.heap.size, 4, none⟩ = some (.int .i64 ty) := by simp [go_sem]
  have v5 : World.cell? (w1.alloc (.cells #[.int .i64 ex, .int .i64 ey, .int .i64 ez, .int .i64 tx, .int .i64 ty, .int .i64 tz] 27)) ⟨w1.heap.size, 5, none⟩ = some (.int .i64 tz) := by simp [go_sem]
  have lv : w1.heap.size < (w1.alloc (.cells #[.int .i64 ex, .int .i64 ey, .int .i64 ez, .int .i64 tx, .int .i64 ty, .int .i64 tz] 27)).heap.size := by simp
  have hb : Below w1.heap.size w1 (w1.alloc (.cells #[.int .i64 ex, .int .i64 ey, .int .i64 ez, .int .i64 tx, .int .i64 ty, .int .i64 tz] 27)) := below_new _ _
  generalize w1.alloc (.cells #[.int .i64 ex, .int .i64 ey, .int .i64 ez, .int .i64 tx, .int .i64 ty, .int .i64 tz] 27) = w2 at *
  replace HB := Lib.hid (on_below HB.out hb)
  replace HL := Lib.hid (HL.out.below hb)
  replace HM := Lib.hid (HM.out.below hb)
  replace p0 := keepc hb p0
  replace p1 := keepc hb p1
  replace p2 := keepc hb p2
  replace q0 := keepc hb q0
  replace q1 := keepc hb q1
  replace q2 := keepc hb q2
  replace o0 := keepc hb o0
  replace o1 := keepc hb o1
  replace lp := Nat.lt_of_lt_of_le lp hb.size
  replace lq := Nat.lt_of_lt_of_le lq hb.size
  replace lo := Nat.lt_of_lt_of_le lo hb.size
  clear hb
  generalize w1.heap.size = gv at *
  with_reducible refine (CD.out _ _ HL.out (s3_two v0 v1 v2 v3 v4 v5) HM.out).mono ?_
  rintro e_ w3 ⟨rfl, hb⟩
  replace HB := Lib.hid (on_below HB.out hb)
  replace HL := Lib.hid (HL.out.below hb)
  replace HM := Lib.hid (HM.out.below hb)
  replace p0 := keepc hb p0
  replace p1 := keepc hb p1
  replace p2 := keepc hb p2
  replace q0 := keepc hb q0
  replace q1 := keepc hb q1
  replace q2 := keepc hb q2
  replace o0 := keepc hb o0
  replace o1 := keepc hb o1
  replace v0 := keepc hb v0
  replace v1 := keepc hb v1
  replace v2 := keepc hb v2
  replace v3 := keepc hb v3
  replace v4 := keepc hb v4
  replace v5 := keepc hb v5
  replace lp := Nat.lt_of_lt_of_le lp hb.size
  replace lq := Nat.lt_of_lt_of_le lq hb.size
  replace lo := Nat.lt_of_lt_of_le lo hb.size
  replace lv := Nat.lt_of_lt_of_le lv hb.size
  clear hb
  go_wp2_with fail
  have d0 : World.cell? (w3.alloc (.cells #[.int .i64 x, .int .i64 y, .int .i64 z] 27)) ⟨w3.heap.size, 0, none⟩ = some (.int .i64 x) := by simp [go_sem]
  have d1 : World.cell? (w3.alloc (.cells #[.int .i64 x, .int .i64 y, .int .i64 z] 27)) ⟨w3.heap.size, 1, none⟩ = some (.int .i64 y) := by simp [go_sem]
  have d2 : World.cell? (w3.alloc (.cells #[.int .i64 x, .int .i64 y, .int .i64 z] 27)) ⟨w3.heap.size, 2, none⟩ = some (.int .i64 z) := by simp [go_sem]
  have ld : w3.heap.size < (w3.alloc (.cells #[.int .i64 x, .int .i64 y, .int .i64 z] 27)).heap.size := by simp
  have hb : Below w3.heap.size w3 (w3.alloc (.cells #[.int .i64 x, .int .i64 y, .int .i64 z] 27)) := below_new _ _
  generalize w3.alloc (.cells #[.int .i64 x, .int .i64 y, .int .i64 z] 27) = w4 at *
  replace HB := Lib.hid (on_below HB.out hb)
  replace HL := Lib.hid (HL.out.below hb)
  replace HM := Lib.hid (HM.out.below hb)
  replace p0 := keepc hb p0
  replace p1 := keepc hb p1
  replace p2 := keepc hb p2
  replace q0 := keepc hb q0
  replace q1 := keepc hb q1
  replace q2 := keepc hb q2
  replace o0 := keepc hb o0
  replace o1 := keepc hb o1
  replace v0 := keepc hb v0
  replace v1 := keepc hb v1
  replace v2 := keepc hb v2
  replace v3 := keepc hb v3
  replace v4 := keepc hb v4
  replace v5 := keepc hb v5
  replace lp := Nat.lt_of_lt_of_le lp hb.size
  replace lq := Nat.lt_of_lt_of_le lq hb.size
  replace lo := Nat.lt_of_lt_of_le lo hb.size
  replace lv := Nat.lt_of_lt_of_le lv hb.size
  clear hb
  generalize w3.heap.size = gd at *
  with_reducible refine (CI.out _).mono ?_
  rintro e_ w5 ⟨rfl, hb⟩
  replace HB := Lib.hid (on_below HB.out hb)
  replace HL := Lib.hid (HL.out.below hb)
  replace HM := Lib.hid (HM.out.below hb)
  replace p0 := keepc hb p0
  replace p1 := keepc hb p1
  replace p2 := keepc hb p2
  replace q0 := keepc hb q0
  replace q1 := keepc hb q1
  replace q2 := keepc hb q2
  replace o0 := keepc hb o0
  replace o1 := keepc hb o1
  replace v0 := keepc hb v0
  replace v1 := keepc hb v1
  replace v2 := keepc hb v2
  replace v3 := keepc hb v3
  replace v4 := keepc hb v4
  replace v5 := keepc hb v5
  replace d0 := keepc hb d0
  replace d1 := keepc hb d1
  replace d2 := keepc hb d2
  replace lp := Nat.lt_of_lt_of_le lp hb.size
  replace lq := Nat.lt_of_lt_of_le lq hb.size
  replace lo := Nat.lt_of_lt_of_le lo hb.size
  replace lv := Nat.lt_of_lt_of_le lv hb.size
  replace ld := Nat.lt_of_lt_of_le ld hb.size
  clear hb
  go_wp2_with fail
  go_ret2
  exact ⟨rfl, HB.out⟩
set_option maxRecDepth 100000 in
set_option maxHeartbeats 2000000 in
theorem glr_3 (A : Option Addr) (C : Nat) (T : List Q4) (m ex ey ez tx ty tz N Q : Int) (B : Option Addr) (D : Nat) (L : List Bv) (h4 : T.length ≤ 9223372036854775807) (h5 : L.length ≤ 9223372036854775807) (hs : Bsm L) (x y z : Int) (hd : DfR T m L [⟨ex, ey, ez⟩, ⟨tx, ty, tz⟩] x y z false 0) (iN : I64 N) (iQ : I64 Q) (hq : shr N Q = true) (w : World) (hl : S4 w A T) (hm : BdS w B L) :
    Calls Try.prog 41 #[.slice A T.length C, .int .i64 m, .agg #[.int .i64 ex, .int .i64 ey, .int .i64 ez], .agg #[.int .i64 tx, .int .i64 ty, .int .i64 tz], .agg #[.int .i64 N, .int .i64 Q], .slice B L.length D] w fun e_ w' => e_ = .returned (.tuple #[.bool false, .int .i64 0]) ∧ Below w.heap.size w w' := by
  have CD := Lib.hid (fun g W (a : S4 W A T) (b : S3 W (some ⟨g, 0, none⟩) [⟨ex, ey, ez⟩, ⟨tx, ty, tz⟩]) (c : BdS W B L) => df_is A C T m B D L (some ⟨g, 0, none⟩) 2 [⟨ex, ey, ez⟩, ⟨tx, ty, tz⟩] h4 h5 (by simp) (fun _ => hs) x y z false 0 hd W a b c)
  simp only [List.length_cons, List.length_nil, Nat.zero_add, Nat.reduceAdd] at CD
  have CI := Lib.hid (fun W => isshare_is N Q true iN iQ hq W)
  clear hd hs iN iQ hq
  have HL := Lib.hid hl
  clear hl
  have HM := Lib.hid hm
  clear hm
  have p0 : World.cell? (((w.alloc (.cells #[.int .i64 ex, .int .i64 ey, .int .i64 ez] 27)).alloc (.cells #[.int .i64 tx, .int .i64 ty, .int .i64 tz] 27)).alloc (.cells #[.int .i64 N, .int .i64 Q] 36)) ⟨w.heap.size, 0, none⟩ = some (.int .i64 ex) := by simp [go_sem]
  have p1 : World.cell? (((w.alloc (.cells #[.int .i64 ex, .int .i64 ey, .int .i64 ez] 27)).alloc (.cells #[.int .i64 tx, .int .i64 ty, .int .i64 tz] 27)).alloc (.cells #[.int .i64 N, .int .i64 Q] 36)) ⟨w.heap.size, 1, none⟩ = some (.int .i64 ey) := by simp [go_sem]
  have p2 : World.cell? (((w.alloc (.cells #[.int .i64 ex, .int .i64 ey, .int .i64 ez] 27)).alloc (.cells #[.int .i64 tx, .int .i64 ty, .int .i64 tz] 27)).alloc (.cells #[.int .i64 N, .int .i64 Q] 36)) ⟨w.heap.size, 2, none⟩ = some (.int .i64 ez) := by simp [go_sem]
  have lp : w.heap.size < (((w.alloc (.cells #[.int .i64 ex, .int .i64 ey, .int .i64 ez] 27)).alloc (.cells #[.int .i64 tx, .int .i64 ty, .int .i64 tz] 27)).alloc (.cells #[.int .i64 N, .int .i64 Q] 36)).heap.size := by simp <;> omega
  have q0 : World.cell? (((w.alloc (.cells #[.int .i64 ex, .int .i64 ey, .int .i64 ez] 27)).alloc (.cells #[.int .i64 tx, .int .i64 ty, .int .i64 tz] 27)).alloc (.cells #[.int .i64 N, .int .i64 Q] 36)) ⟨w.heap.size + 1, 0, none⟩ = some (.int .i64 tx) := by simp [go_sem]
  have q1 : World.cell? (((w.alloc (.cells #[.int .i64 ex, .int .i64 ey, .int .i64 ez] 27)).alloc (.cells #[.int .i64 tx, .int .i64 ty, .int .i64 tz] 27)).alloc (.cells #[.int .i64 N, .int .i64 Q] 36)) ⟨w.heap.size + 1, 1, none⟩ = some (.int .i64 ty) := by simp [go_sem]
  have q2 : World.cell? (((w.alloc (.cells #[.int .i64 ex, .int .i64 ey, .int .i64 ez] 27)).alloc (.cells #[.int .i64 tx, .int .i64 ty, .int .i64 tz] 27)).alloc (.cells #[.int .i64 N, .int .i64 Q] 36)) ⟨w.heap.size + 1, 2, none⟩ = some (.int .i64 tz) := by simp [go_sem]
  have lq : w.heap.size + 1 < (((w.alloc (.cells #[.int .i64 ex, .int .i64 ey, .int .i64 ez] 27)).alloc (.cells #[.int .i64 tx, .int .i64 ty, .int .i64 tz] 27)).alloc (.cells #[.int .i64 N, .int .i64 Q] 36)).heap.size := by simp <;> omega
  have o0 : World.cell? (((w.alloc (.cells #[.int .i64 ex, .int .i64 ey, .int .i64 ez] 27)).alloc (.cells #[.int .i64 tx, .int .i64 ty, .int .i64 tz] 27)).alloc (.cells #[.int .i64 N, .int .i64 Q] 36)) ⟨w.heap.size + 1 + 1, 0, none⟩ = some (.int .i64 N) := by simp [go_sem]
  have o1 : World.cell? (((w.alloc (.cells #[.int .i64 ex, .int .i64 ey, .int .i64 ez] 27)).alloc (.cells #[.int .i64 tx, .int .i64 ty, .int .i64 tz] 27)).alloc (.cells #[.int .i64 N, .int .i64 Q] 36)) ⟨w.heap.size + 1 + 1, 1, none⟩ = some (.int .i64 Q) := by simp [go_sem]
  have lo : w.heap.size + 1 + 1 < (((w.alloc (.cells #[.int .i64 ex, .int .i64 ey, .int .i64 ez] 27)).alloc (.cells #[.int .i64 tx, .int .i64 ty, .int .i64 tz] 27)).alloc (.cells #[.int .i64 N, .int .i64 Q] 36)).heap.size := by simp <;> omega
  have HB := Lib.hid (show Below w.heap.size w (((w.alloc (.cells #[.int .i64 ex, .int .i64 ey, .int .i64 ez] 27)).alloc (.cells #[.int .i64 tx, .int .i64 ty, .int .i64 tz] 27)).alloc (.cells #[.int .i64 N, .int .i64 Q] 36)) from ((((Below.refl _ _).alloc (by simp <;> omega) _).alloc (by simp <;> omega) _).alloc (by simp <;> omega) _))
  go_enter Try.func41, Try.ntmps41
  go_upto_region 1 with fail
  generalize ((w.alloc (.cells #[.int .i64 ex, .int .i64 ey, .int .i64 ez] 27)).alloc (.cells #[.int .i64 tx, .int .i64 ty, .int .i64 tz] 27)).alloc (.cells #[.int .i64 N, .int .i64 Q] 36) = w1 at *
  replace HL := Lib.hid (HL.out.below HB.out)
  replace HM := Lib.hid (HM.out.below HB.out)
  go_wp2_with fail
  have v0 : World.cell? (w1.alloc (.cells #[.int .i64 ex, .int .i64 ey, .int .i64 ez, .int .i64 tx, .int .i64 ty, .int .i64 tz] 27)) ⟨w1.heap.size, 0, none⟩ = some (.int .i64 ex) := by simp [go_sem]
  have v1 : World.cell? (w1.alloc (.cells #[.int .i64 ex, .int .i64 ey, .int .i64 ez, .int .i64 tx, .int .i64 ty, .int .i64 tz] 27)) ⟨w1.heap.size, 1, none⟩ = some (.int .i64 ey) := by simp [go_sem]
  have v2 : World.cell? (w1.alloc (.cells #[.int .i64 ex, .int .i64 ey, .int .i64 ez, .int .i64 tx, .int .i64 ty, .int .i64 tz] 27)) ⟨w1.heap.size, 2, none⟩ = some (.int .i64 ez) := by simp [go_sem]
  have v3 : World.cell? (w1.alloc (.cells #[.int .i64 ex, .int .i64 ey, .int .i64 ez, .int .i64 tx, .int .i64 ty, .int .i64 tz] 27)) ⟨w1.heap.size, 3, none⟩ = some (.int .i64 tx) := by simp [go_sem]
  have v4 : World.cell? (w1.alloc (.cells #[.int .i64 ex, .int .i64 ey, .int .i64 ez, .int .i64 tx, .int .i64 ty, .int .i64 tz] 27)) ⟨w1.heap.size, 4, none⟩ = some (.int .i64 ty) := by simp [go_sem]
  have v5 : World.cell? (w1.alloc (.cells #[.int .i64 ex, .int .i64 ey, .int .i64 ez, .int .i64 tx, .int .i64 ty, .int .i64 tz] 27)) ⟨w1.heap.size, 5, none⟩ = some (.int .i64 tz) := by simp [go_sem]
  have lv : w1.heap.size < (w1.alloc (.cells #[.int .i64 ex, .int .i64 ey, .int .i64 ez, .int .i64 tx, .int .i64 ty, .int .i64 tz] 27)).heap.size := by simp
  have hb : Below w1.heap.size w1 (w1.alloc (.cells #[.int .i64 ex, .int .i64 ey, .int .i64 ez, .int .i64 tx, .int .i64 ty, .int .i64 tz] 27)) := below_new _ _
  generalize w1.alloc (.cells #[.int .i64 ex, .int .i64 ey, .int .i64 ez, .int .i64 tx, .int .i64 ty, .int .i64 tz] 27) = w2 at *
  replace HB := Lib.hid (on_below HB.out hb)
  replace HL := Lib.hid (HL.out.below hb)
  replace HM := Lib.hid (HM.out.below hb)
  replace p0 := keepc hb p0
  replace p1 := keepc hb p1
  replace p2 := keepc hb p2
  replace q0 := keepc hb q0
  replace q1 := keepc hb q1
  replace q2 := keepc hb q2
  replace o0 := keepc hb o0
  replace o1 := keepc hb o1
  replace lp := Nat.lt_of_lt_of_le lp hb.size
  replace lq := Nat.lt_of_lt_of_le lq hb.size
  replace lo := Nat.lt_of_lt_of_le lo hb.size
  clear hb
  generalize w1.heap.size = gv at *
  with_reducible refine (CD.out _ _ HL.out (s3_two v0 v1 v2 v3 v4 v5) HM.out).mono ?_
  rintro e_ w3 ⟨rfl, hb⟩
  replace HB := Lib.hid (on_below HB.out hb)
  replace HL := Lib.hid (HL.out.below hb)
  replace HM := Lib.hid (HM.out.below hb)
  replace p0 := keepc hb p0
  replace p1 := keepc hb p1
  replace p2 := keepc hb p2
  replace q0 := keepc hb q0
  replace q1 := keepc hb q1
  replace q2 := keepc hb q2
  replace o0 := keepc hb o0
  replace o1 := keepc hb o1
  replace v0 := keepc hb v0
  replace v1 := keepc hb v1
  replace v2 := keepc hb v2
  replace v3 := keepc hb v3
  replace v4 := keepc hb v4
  replace v5 := keepc hb v5
  replace lp := Nat.lt_of_lt_of_le lp hb.size
  replace lq := Nat.lt_of_lt_of_le lq hb.size
  replace lo := Nat.lt_of_lt_of_le lo hb.size
  replace lv := Nat.lt_of_lt_of_le lv hb.size
  clear hb
  go_wp2_with fail
  have d0 : World.cell? (w3.alloc (.cells #[.int .i64 x, .int .i64 y, .int .i64 z] 27)) ⟨w3.heap.size, 0, none⟩ = some (.int .i64 x) := by simp [go_sem]
  have d1 : World.cell? (w3.alloc (.cells #[.int .i64 x, .int .i64 y, .int .i64 z] 27)) ⟨w3.heap.size, 1, none⟩ = some (.int .i64 y) := by simp [go_sem]
  have d2 : World.cell? (w3.alloc (.cells #[.int .i64 x, .int .i64 y, .int .i64 z] 27)) ⟨w3.heap.size, 2, none⟩ = some (.int .i64 z) := by simp [go_sem]
  have ld : w3.heap.size < (w3.alloc (.cells #[.int .i64 x, .int .i64 y, .int .i64 z] 27)).heap.size := by simp
  have hb : Below w3.heap.size w3 (w3.alloc (.cells #[.int .i64 x, .int .i64 y, .int .i64 z] 27)) := below_new _ _
  generalize w3.alloc (.cells #[.int .i64 x, .int .i64 y, .int .i64 z] 27) = w4 at *
  replace HB := Lib.hid (on_below HB.out hb)
  replace HL := Lib.hid (HL.out.below hb)
  replace HM := Lib.hid (HM.out.below hb)
  replace p0 := keepc hb p0
  replace p1 := keepc hb p1
  replace p2 := keepc hb p2
  replace q0 := keepc hb q0
  replace q1 := keepc hb q1
  replace q2 := keepc hb q2
  replace o0 := keepc hb o0
  replace o1 := keepc hb o1
  replace v0 := keepc hb v0
  replace v1 := keepc hb v1
  replace v2 := keepc hb v2
  replace v3 := keepc hb v3
  replace v4 := keepc hb v4
  replace v5 := keepc hb v5
  replace lp := Nat.lt_of_lt_of_le lp hb.size
  replace lq := Nat.lt_of_lt_of_le lq hb.size
  replace lo := Nat.lt_of_lt_of_le lo hb.size
  replace lv := Nat.lt_of_lt_of_le lv hb.size
  clear hb
  generalize w3.heap.size = gd at *
  with_reducible refine (CI.out _).mono ?_
  rintro e_ w5 ⟨rfl, hb⟩
  replace HB := Lib.hid (on_below HB.out hb)
  replace HL := Lib.hid (HL.out.below hb)
  replace HM := Lib.hid (HM.out.below hb)
  replace p0 := keepc hb p0
  replace p1 := keepc hb p1
  replace p2 := keepc hb p2
  replace q0 := keepc hb q0
  replace q1 := keepc hb q1
  replace q2 := keepc hb q2
  replace o0 := keepc hb o0
  replace o1 := keepc hb o1
  replace v0 := keepc hb v0
  replace v1 := keepc hb v1
  replace v2 := keepc hb v2
  replace v3 := keepc hb v3
  replace v4 := keepc hb v4
  replace v5 := keepc hb v5
  replace d0 := keepc hb d0
  replace d1 := keepc hb d1
  replace d2 := keepc hb d2
  replace lp := Nat.lt_of_lt_of_le lp hb.size
  replace lq := Nat.lt_of_lt_of_le lq hb.size
  replace lo := Nat.lt_of_lt_of_le lo hb.size
  replace lv := Nat.lt_of_lt_of_le lv hb.size
  replace ld := Nat.lt_of_lt_of_le ld hb.size
  clear hb
  go_wp2_with fail
  go_ret2
  exact ⟨rfl, HB.out⟩
set_option maxRecDepth 100000 in
set_option maxHeartbeats 2000000 in
theorem glr_4 (A : Option Addr) (C : Nat) (T : List Q4) (m ex ey ez tx ty tz N Q : Int) (B : Option Addr) (D : Nat) (L : List Bv) (h4 : T.length ≤ 9223372036854775807) (h5 : L.length ≤ 9223372036854775807) (hs : Bsm L) (x y z : Int) (hd : DfR T m L [⟨ex, ey, ez⟩, ⟨tx, ty, tz⟩] x y z true 0) (iN : I64 N) (iQ : I64 Q) (hq : shr N Q = true) (he : tx = ex ∧ ty = ey ∧ tz = ez) (w : World) (hl : S4 w A T) (hm : BdS w B L) :
    Calls Try.prog 41 #[.slice A T.length C, .int .i64 m, .agg #[.int .i64 ex, .int .i64 ey, .int .i64 ez], .agg #[.int .i64 tx, .int .i64 ty, .int .i64 tz], .agg #[.int .i64 N, .int .i64 Q], .slice B L.length D] w fun e_ w' => e_ = .returned (.tuple #[.bool false, .int .i64 0]) ∧ Below w.heap.size w w' := by
  have CD := Lib.hid (fun g W (a : S4 W A T) (b : S3 W (some ⟨g, 0, none⟩) [⟨ex, ey, ez⟩, ⟨tx, ty, tz⟩]) (c : BdS W B L) => df_is A C T m B D L (some ⟨g, 0, none⟩) 2 [⟨ex, ey, ez⟩, ⟨tx, ty, tz⟩] h4 h5 (by simp) (fun _ => hs) x y z true 0 hd W a b c)
  simp only [List.length_cons, List.length_nil, Nat.zero_add, Nat.reduceAdd] at CD
  have CI := Lib.hid (fun W => isshare_is N Q true iN iQ hq W)
  have eV : ∀ W, (binOp .eql 27 (.agg #[.int .i64 tx, .int .i64 ty, .int .i64 tz]) (.agg #[.int .i64 ex, .int .i64 ey, .int .i64 ez])).run Try.prog W = .ok (.bool true) W := fun W => vec_eq (r := true) (decide_eq_true he) W
  clear hd hs iN iQ hq he
  have HL := Lib.hid hl
  clear hl
  have HM := Lib.hid hm
  clear hm
  have p0 : World.cell? (((w.alloc (.cells #[.int .i64 ex, .int .i64 ey, .int .i64 ez] 27)).alloc (.cells #[.int .i64 tx, .int .i64 ty, .int .i64 tz] 27)).alloc (.cells #[.int .i64 N, .int .i64 Q] 36)) ⟨w.heap.size, 0, none⟩ = some (.int .i64 ex) := by simp [go_sem]
  have p1 : World.cell? (((w.alloc (.cells #[.int .i64 ex, .int .i64 ey, .int .i64 ez] 27)).alloc (.cells #[.int .i64 tx, .int .i64 ty, .int .i64 tz] 27)).alloc (.cells #[.int .i64 N, .int .i64 Q] 36)) ⟨w.heap.size, 1, none⟩ = some (.int .i64 ey) := by simp [go_sem]
  have p2 : World.cell? (((w.alloc (.cells #[.int .i64 ex, .int .i64 ey, .int .i64 ez] 27)).alloc (.cells #[.int .i64 tx, .int .i64 ty, .int .i64 tz] 27)).alloc (.cells #[.int .i64 N, .int .i64 Q] 36)) ⟨w.heap.size, 2, none⟩ = some (.int .i64 ez) := by simp [go_sem]
  have lp : w.heap.size < (((w.alloc (.cells #[.int .i64 ex, .int .i64 ey, .int .i64 ez] 27)).alloc (.cells #[.int .i64 tx, .int .i64 ty, .int .i64 tz] 27)).alloc (.cells #[.int .i64 N, .int .i64 Q] 36)).heap.size := by simp <;> omega
  have q0 : World.cell? (((w.alloc (.cells #[.int .i64 ex, .int .i64 ey, .int .i64 ez] 27)).alloc (.cells #[.int .i64 tx, .int .i64 ty, .int .i64 tz] 27)).alloc (.cells #[.int .i64 N, .int .i64 Q] 36)) ⟨w.heap.size + 1, 0, none⟩ = some (.int .i64 tx) := by simp [go_sem]
  have q1 : World.cell? (((w.alloc (.cells #[.int .i64 ex, .int .i64 ey, .int .i64 ez] 27)).alloc (.cells #[.int .i64 tx, .int .i64 ty, .int .i64 tz] 27)).alloc (.cells #[.int .i64 N, .int .i64 Q] 36)) ⟨w.heap.size + 1, 1, none⟩ = some (.int .i64 ty) := by simp [go_sem]
  have q2 : World.cell? (((w.alloc (.cells #[.int .i64 ex, .int .i64 ey, .int .i64 ez] 27)).alloc (.cells #[.int .i64 tx, .int .i64 ty, .int .i64 tz] 27)).alloc (.cells #[.int .i64 N, .int .i64 Q] 36)) ⟨w.heap.size + 1, 2, none⟩ = some (.int .i64 tz) := by simp [go_sem]
  have lq : w.heap.size + 1 < (((w.alloc (.cells #[.int .i64 ex, .int .i64 ey, .int .i64 ez] 27)).alloc (.cells #[.int .i64 tx, .int .i64 ty, .int .i64 tz] 27)).alloc (.cells #[.int .i64 N, .int .i64 Q] 36)).heap.size := by simp <;> omega
  have o0 : World.cell? (((w.alloc (.cells #[.int .i64 ex, .int .i64 ey, .int .i64 ez] 27)).alloc (.cells #[.int .i64 tx, .int .i64 ty, .int .i64 tz] 27)).alloc (.cells #[.int .i64 N, .int .i64 Q] 36)) ⟨w.heap.size + 1 + 1, 0, none⟩ = some (.int .i64 N) := by simp [go_sem]
  have o1 : World.cell? (((w.alloc (.cells #[.int .i64 ex, .int .i64 ey, .int .i64 ez] 27)).alloc (.cells #[.int .i64 tx, .int .i64 ty, .int .i64 tz] 27)).alloc (.cells #[.int .i64 N, .int .i64 Q] 36)) ⟨w.heap.size + 1 + 1, 1, none⟩ = some (.int .i64 Q) := by simp [go_sem]
  have lo : w.heap.size + 1 + 1 < (((w.alloc (.cells #[.int .i64 ex, .int .i64 ey, .int .i64 ez] 27)).alloc (.cells #[.int .i64 tx, .int .i64 ty, .int .i64 tz] 27)).alloc (.cells #[.int .i64 N, .int .i64 Q] 36)).heap.size := by simp <;> omega
  have HB := Lib.hid (show Below w.heap.size w (((w.alloc (.cells #[.int .i64 ex, .int .i64 ey, .int .i64 ez] 27)).alloc (.cells #[.int .i64 tx, .int .i64 ty, .int .i64 tz] 27)).alloc (.cells #[.int .i64 N, .int .i64 Q] 36)) from ((((Below.refl _ _).alloc (by simp <;> omega) _).alloc (by simp <;> omega) _).alloc (by simp <;> omega) _))
  go_enter Try.func41, Try.ntmps41
  go_upto_region 1 with fail
  generalize ((w.alloc (.cells #[.int .i64 ex, .int .i64 ey, .int .i64 ez] 27)).alloc (.cells #[.int .i64 tx, .int .i64 ty, .int .i64 tz] 27)).alloc (.cells #[.int .i64 N, .int .i64 Q] 36) = w1 at *
  replace HL := Lib.hid (HL.out.below HB.out)
  replace HM := Lib.hid (HM.out.below HB.out)
  go_wp2_with fail
  have v0 : World.cell? (w1.alloc (.cells #[.int .i64 ex, .int .i64 ey, .int .i64 ez, .int .i64 tx, .int .i64 ty, .int .i64 tz] 27)) ⟨w1.heap.size, 0, none⟩ = some (.int .i64 ex) := by simp [go_sem]
  have v1 : World.cell? (w1.alloc (.cells #[.int .i64 ex, .int .i64 ey, .int .i64 ez, .int .i64 tx, .int .i64 ty, .int .i64 tz] 27)) ⟨w1.heap.size, 1, none⟩ = some (.int .i64 ey) := by simp [go_sem]
  have v2 : World.cell? (w1.alloc (.cells #[.int .i64 ex, .int .i64 ey, .int .i64 ez, .int .i64 tx, .int .i64 ty, .int .i64 tz] 27)) ⟨w1.heap.size, 2, none⟩ = some (.int .i64 ez) := by simp [go_sem]
  have v3 : World.cell? (w1.alloc (.cells #[.int .i64 ex, .int .i64 ey, .int .i64 ez, .int .i64 tx, .int .i64 ty, .int .i64 tz] 27)) ⟨w1.heap.size, 3, none⟩ = some (.int .i64 tx) := by simp [go_sem]
  have v4 : World.cell? (w1.alloc (.cells #[.int .i64 ex, .int .i64 ey, .int .i64 ez, .int .i64 tx, .int .i64 ty, .int .i64 tz] 27)) ⟨w1.heap.size, 4, none⟩ = some (.int .i64 ty) := by simp [go_sem]
  have v5 : World.cell? (w1.alloc (.cells #[.int .i64 ex, .int .i64 ey, .int .i64 ez, .int .i64 tx, .int .i64 ty, .int .i64 tz] 27)) ⟨w1.heap.size, 5, none⟩ = some (.int .i64 tz) := by simp [go_sem]
  have lv : w1.heap.size < (w1.alloc (.cells #[.int .i64 ex, .int .i64 ey, .int .i64 ez, .int .i64 tx, .int .i64 ty, .int .i64 tz] 27)).heap.size := by simp
  have hb : Below w1.heap.size w1 (w1.alloc (.cells #[.int .i64 ex, .int .i64 ey, .int .i64 ez, .int .i64 tx, .int .i64 ty, .int .i64 tz] 27)) := below_new _ _
  generalize w1.alloc (.cells #[.int .i64 ex, .int .i64 ey, .int .i64 ez, .int .i64 tx, .int .i64 ty, .int .i64 tz] 27) = w2 at *
  replace HB := Lib.hid (on_below HB.out hb)
  replace HL := Lib.hid (HL.out.below hb)
  replace HM := Lib.hid (HM.out.below hb)
  replace p0 := keepc hb p0
  replace p1 := keepc hb p1
  replace p2 := keepc hb p2
  replace q0 := keepc hb q0
  replace q1 := keepc hb q1
  replace q2 := keepc hb q2
  replace o0 := keepc hb o0
  replace o1 := keepc hb o1
  replace lp := Nat.lt_of_lt_of_le lp hb.size
  replace lq := Nat.lt_of_lt_of_le lq hb.size
  replace lo := Nat.lt_of_lt_of_le lo hb.size
  clear hb
  generalize w1.heap.size = gv at *
  with_reducible refine (CD.out _ _ HL.out (s3_two v0 v1 v2 v3 v4 v5) HM.out).mono ?_
  rintro e_ w3 ⟨rfl, hb⟩
  replace HB := Lib.hid (on_below HB.out hb)
  replace HL := Lib.hid (HL.out.below hb)
  replace HM := Lib.hid (HM.out.below hb)
  replace p0 := keepc hb p0
  replace p1 := keepc hb p1
  replace p2 := keepc hb p2
  replace q0 := keepc hb q0
  replace q1 := keepc hb q1
  replace q2 := keepc hb q2
  replace o0 := keepc hb o0
  replace o1 := keepc hb o1
  replace v0 := keepc hb v0
  replace v1 := keepc hb v1
  replace v2 := keepc hb v2
  replace v3 := keepc hb v3
  replace v4 := keepc hb v4
  replace v5 := keepc hb v5
  replace lp := Nat.lt_of_lt_of_le lp hb.size
  replace lq := Nat.lt_of_lt_of_le lq hb.size
  replace lo := Nat.lt_of_lt_of_le lo hb.size
  replace lv := Nat.lt_of_lt_of_le lv hb.size
  clear hb
  go_wp2_with fail
  have d0 : World.cell? (w3.alloc (.cells #[.int .i64 x, .int .i64 y, .int .i64 z] 27)) ⟨w3.heap.size, 0, none⟩ = some (.int .i64 x) := by simp [go_sem]
  have d1 : World.cell? (w3.alloc (.cells #[.int .i64 x, .int .i64 y, .int .i64 z] 27)) ⟨w3.heap.size, 1, none⟩ = some (.int .i64 y) := by simp [go_sem]
  have d2 : World.cell? (w3.alloc (.cells #[.int .i64 x, .int .i64 y, .int .i64 z] 27)) ⟨w3.heap.size, 2, none⟩ = some (.int .i64 z) := by simp [go_sem]
  have ld : w3.heap.size < (w3.alloc (.cells #[.int .i64 x, .int .i64 y, .int .i64 z] 27)).heap.size := by simp
  have hb : Below w3.heap.size w3 (w3.alloc (.cells #[.int .i64 x, .int .i64 y, .int .i64 z] 27)) := below_new _ _
  generalize w3.alloc (.cells #[.int .i64 x, .int .i64 y, .int .i64 z] 27) = w4 at *
  replace HB := Lib.hid (on_below HB.out hb)
  replace HL := Lib.hid (HL.out.below hb)
  replace HM := Lib.hid (HM.out.below hb)
  replace p0 := keepc hb p0
  replace p1 := keepc hb p1
  replace p2 := keepc hb p2
  replace q0 := keepc hb q0
  replace q1 := keepc hb q1
  replace q2 := keepc hb q2
  replace o0 := keepc hb o0
  replace o1 := keepc hb o1
  replace v0 := keepc hb v0
  replace v1 := keepc hb v1
  replace v2 := keepc hb v2
  replace v3 := keepc hb v3
  replace v4 := keepc hb v4
  replace v5 := keepc hb v5
  replace lp := Nat.lt_of_lt_of_le lp hb.size
  replace lq := Nat.lt_of_lt_of_le lq hb.size
  replace lo := Nat.lt_of_lt_of_le lo hb.size
  replace lv := Nat.lt_of_lt_of_le lv hb.size
  clear hb
  generalize w3.heap.size = gd at *
  with_reducible refine (CI.out _).mono ?_
  rintro e_ w5 ⟨rfl, hb⟩
  replace HB := Lib.hid (on_below HB.out hb)
  replace HL := Lib.hid (HL.out.below hb)
  replace HM := Lib.hid (HM.out.below hb)
  replace p0 := keepc hb p0
  replace p1 := keepc hb p1
  replace p2 := keepc hb p2
  replace q0 := keepc hb q0
  replace q1 := keepc hb q1
  replace q2 := keepc hb q2
  replace o0 := keepc hb o0
  replace o1 := keepc hb o1
  replace v0 := keepc hb v0
  replace v1 := keepc hb v1
  replace v2 := keepc hb v2
  replace v3 := keepc hb v3
  replace v4 := keepc hb v4
  replace v5 := keepc hb v5
  replace d0 := keepc hb d0
  replace d1 := keepc hb d1
  replace d2 := keepc hb d2
  replace lp := Nat.lt_of_lt_of_le lp hb.size
  replace lq := Nat.lt_of_lt_of_le lq hb.size
  replace lo := Nat.lt_of_lt_of_le lo hb.size
  replace lv := Nat.lt_of_lt_of_le lv hb.size
  replace ld := Nat.lt_of_lt_of_le ld hb.size
  clear hb
  go_wp2_with fail
  go_ret2
  exact ⟨rfl, HB.out⟩
set_option maxRecDepth 100000 in
set_option maxHeartbeats 2000000 in
theorem glr_5 (A : Option Addr) (C : Nat) (T : List Q4) (m ex ey ez tx ty tz N Q : Int) (B : Option Addr) (D : Nat) (L : List Bv) (h4 : T.length ≤ 9223372036854775807) (h5 : L.length ≤ 9223372036854775807) (hs : Bsm L) (x y z : Int) (hd : DfR T m L [⟨ex, ey, ez⟩, ⟨tx, ty, tz⟩] x y z true 0) (iN : I64 N) (iQ : I64 Q) (hq : shr N Q = true) (hne : ¬ (tx = ex ∧ ty = ey ∧ tz = ez)) (he : vv ex ey ez = true) (ht : vv tx ty tz = true) (hx : vv x y z = true) (hn : ¬ (x = 0 ∧ y = 0 ∧ z = 0)) (hb : Bds L) (hv : vv (ex + x) (ey + y) (ez + z) = false) (w : World) (hl : S4 w A T) (hm : BdS w B L) :
    Calls Try.prog 41 #[.slice A T.length C, .int .i64 m, .agg #[.int .i64 ex, .int .i64 ey, .int .i64 ez], .agg #[.int .i64 tx, .int .i64 ty, .int .i64 tz], .agg #[.int .i64 N, .int .i64 Q], .slice B L.length D] w fun e_ w' => e_ = .returned (.tuple #[.bool false, .int .i64 3]) ∧ Below w.heap.size w w' := by
  have CD := Lib.hid (fun g W (a : S4 W A T) (b : S3 W (some ⟨g, 0, none⟩) [⟨ex, ey, ez⟩, ⟨tx, ty, tz⟩]) (c : BdS W B L) => df_is A C T m B D L (some ⟨g, 0, none⟩) 2 [⟨ex, ey, ez⟩, ⟨tx, ty, tz⟩] h4 h5 (by simp) (fun _ => hs) x y z true 0 hd W a b c)
  simp only [List.length_cons, List.length_nil, Nat.zero_add, Nat.reduceAdd] at CD
  have CI := Lib.hid (fun W => isshare_is N Q true iN iQ hq W)
  have eV : ∀ W, (binOp .eql 27 (.agg #[.int .i64 tx, .int .i64 ty, .int .i64 tz]) (.agg #[.int .i64 ex, .int .i64 ey, .int .i64 ez])).run Try.prog W = .ok (.bool false) W := fun W => vec_eq (r := false) (decide_eq_false hne) W
  have CW := Lib.hid (fun W => wayfrom_is ex ey ez x y z 0 0 0 3 (by rw [he, hx, hv]; rfl) rfl rfl rfl W)
  clear hd hs iN iQ hq hne he ht hx hn hb hv
  have HL := Lib.hid hl
  clear hl
  have HM := Lib.hid hm
  clear hm
  have p0 : World.cell? (((w.alloc (.cells #[.int .i64 ex, .int .i64 ey, .int .i64 ez] 27)).alloc (.cells #[.int .i64 tx, .int .i64 ty, .int .i64 tz] 27)).alloc (.cells #[.int .i64 N, .int .i64 Q] 36)) ⟨w.heap.size, 0, none⟩ = some (.int .i64 ex) := by simp [go_sem]
  have p1 : World.cell? (((w.alloc (.cells #[.int .i64 ex, .int .i64 ey, .int .i64 ez] 27)).alloc (.cells #[.int .i64 tx, .int .i64 ty, .int .i64 tz] 27)).alloc (.cells #[.int .i64 N, .int .i64 Q] 36)) ⟨w.heap.size, 1, none⟩ = some (.int .i64 ey) := by simp [go_sem]
  have p2 : World.cell? (((w.alloc (.cells #[.int .i64 ex, .int .i64 ey, .int .i64 ez] 27)).alloc (.cells #[.int .i64 tx, .int .i64 ty, .int .i64 tz] 27)).alloc (.cells #[.int .i64 N, .int .i64 Q] 36)) ⟨w.heap.size, 2, none⟩ = some (.int .i64 ez) := by simp [go_sem]
  have lp : w.heap.size < (((w.alloc (.cells #[.int .i64 ex, .int .i64 ey, .int .i64 ez] 27)).alloc (.cells #[.int .i64 tx, .int .i64 ty, .int .i64 tz] 27)).alloc (.cells #[.int .i64 N, .int .i64 Q] 36)).heap.size := by simp <;> omega
  have q0 : World.cell? (((w.alloc (.cells #[.int .i64 ex, .int .i64 ey, .int .i64 ez] 27)).alloc (.cells #[.int .i64 tx, .int .i64 ty, .int .i64 tz] 27)).alloc (.cells #[.int .i64 N, .int .i64 Q] 36)) ⟨w.heap.size + 1, 0, none⟩ = some (.int .i64 tx) := by simp [go_sem]
  have q1 : World.cell? (((w.alloc (.cells #[.int .i64 ex, .int .i64 ey, .int .i64 ez] 27)).alloc (.cells #[.int .i64 tx, .int .i64 ty, .int .i64 tz] 27)).alloc (.cells #[.int .i64 N, .int .i64 Q] 36)) ⟨w.heap.size + 1, 1, none⟩ = some (.int .i64 ty) := by simp [go_sem]
  have q2 : World.cell? (((w.alloc (.cells #[.int .i64 ex, .int .i64 ey, .int .i64 ez] 27)).alloc (.cells #[.int .i64 tx, .int .i64 ty, .int .i64 tz] 27)).alloc (.cells #[.int .i64 N, .int .i64 Q] 36)) ⟨w.heap.size + 1, 2, none⟩ = some (.int .i64 tz) := by simp [go_sem]
  have lq : w.heap.size + 1 < (((w.alloc (.cells #[.int .i64 ex, .int .i64 ey, .int .i64 ez] 27)).alloc (.cells #[.int .i64 tx, .int .i64 ty, .int .i64 tz] 27)).alloc (.cells #[.int .i64 N, .int .i64 Q] 36)).heap.size := by simp <;> omega
  have o0 : World.cell? (((w.alloc (.cells #[.int .i64 ex, .int .i64 ey, .int .i64 ez] 27)).alloc (.cells #[.int .i64 tx, .int .i64 ty, .int .i64 tz] 27)).alloc (.cells #[.int .i64 N, .int .i64 Q] 36)) ⟨w.heap.size + 1 + 1, 0, none⟩ = some (.int .i64 N) := by simp [go_sem]
  have o1 : World.cell? (((w.alloc (.cells #[.int .i64 ex, .int .i64 ey, .int .i64 ez] 27)).alloc (.cells #[.int .i64 tx, .int .i64 ty, .int .i64 tz] 27)).alloc (.cells #[.int .i64 N, .int .i64 Q] 36)) ⟨w.heap.size + 1 + 1, 1, none⟩ = some (.int .i64 Q) := by simp [go_sem]
  have lo : w.heap.size + 1 + 1 < (((w.alloc (.cells #[.int .i64 ex, .int .i64 ey, .int .i64 ez] 27)).alloc (.cells #[.int .i64 tx, .int .i64 ty, .int .i64 tz] 27)).alloc (.cells #[.int .i64 N, .int .i64 Q] 36)).heap.size := by simp <;> omega
  have HB := Lib.hid (show Below w.heap.size w (((w.alloc (.cells #[.int .i64 ex, .int .i64 ey, .int .i64 ez] 27)).alloc (.cells #[.int .i64 tx, .int .i64 ty, .int .i64 tz] 27)).alloc (.cells #[.int .i64 N, .int .i64 Q] 36)) from ((((Below.refl _ _).alloc (by simp <;> omega) _).alloc (by simp <;> omega) _).alloc (by simp <;> omega) _))
  go_enter Try.func41, Try.ntmps41
  go_upto_region 1 with fail
  generalize ((w.alloc (.cells #[.int .i64 ex, .int .i64 ey, .int .i64 ez] 27)).alloc (.cells #[.int .i64 tx, .int .i64 ty, .int .i64 tz] 27)).alloc (.cells #[.int .i64 N, .int .i64 Q] 36) = w1 at *
  replace HL := Lib.hid (HL.out.below HB.out)
  replace HM := Lib.hid (HM.out.below HB.out)
  go_wp2_with fail
  have v0 : World.cell? (w1.alloc (.cells #[.int .i64 ex, .int .i64 ey, .int .i64 ez, .int .i64 tx, .int .i64 ty, .int .i64 tz] 27)) ⟨w1.heap.size, 0, none⟩ = some (.int .i64 ex) := by simp [go_sem]
  have v1 : World.cell? (w1.alloc (.cells #[.int .i64 ex, .int .i64 ey, .int .i64 ez, .int .i64 tx, .int .i64 ty, .int .i64 tz] 27)) ⟨w1.heap.size, 1, none⟩ = some (.int .i64 ey) := by simp [go_sem]
  have v2 : World.cell? (w1.alloc (.cells #[.int .i64 ex, .int .i64 ey, .int .i64 ez, .int .i64 tx, .int .i64 ty, .int .i64 tz] 27)) ⟨w1.heap.size, 2, none⟩ = some (.int .i64 ez) := by simp [go_sem]
  have v3 : World.cell? (w1.alloc (.cells #[.int .i64 ex, .int .i64 ey, .int .i64 ez, .int .i64 tx, .int .i64 ty, .int .i64 tz] 27)) ⟨w1.heap.size, 3, none⟩ = some (.int .i64 tx) := by simp [go_sem]
  have v4 : World.cell? (w1.alloc (.cells #[.int .i64 ex, .int .i64 ey, .int .i64 ez, .int .i64 tx, .int .i64 ty, .int .i64 tz] 27)) ⟨w1.heap.size, 4, none⟩ = some (.int .i64 ty) := by simp [go_sem]
  have v5 : World.cell? (w1.alloc (.cells #[.int .i64 ex, .int .i64 ey, .int .i64 ez, .int .i64 tx, .int .i64 ty, .int .i64 tz] 27)) ⟨w1.heap.size, 5, none⟩ = some (.int .i64 tz) := by simp [go_sem]
  have lv : w1.heap.size < (w1.alloc (.cells #[.int .i64 ex, .int .i64 ey, .int .i64 ez, .int .i64 tx, .int .i64 ty, .int .i64 tz] 27)).heap.size := by simp
  have hb : Below w1.heap.size w1 (w1.alloc (.cells #[.int .i64 ex, .int .i64 ey, .int .i64 ez, .int .i64 tx, .int .i64 ty, .int .i64 tz] 27)) := below_new _ _
  generalize w1.alloc (.cells #[.int .i64 ex, .int .i64 ey, .int .i64 ez, .int .i64 tx, .int .i64 ty, .int .i64 tz] 27) = w2 at *
  replace HB := Lib.hid (on_below HB.out hb)
  replace HL := Lib.hid (HL.out.below hb)
  replace HM := Lib.hid (HM.out.below hb)
  replace p0 := keepc hb p0
  replace p1 := keepc hb p1
  replace p2 := keepc hb p2
  replace q0 := keepc hb q0
  replace q1 := keepc hb q1
  replace q2 := keepc hb q2
  replace o0 := keepc hb o0
  replace o1 := keepc hb o1
  replace lp := Nat.lt_of_lt_of_le lp hb.size
  replace lq := Nat.lt_of_lt_of_le lq hb.size
  replace lo := Nat.lt_of_lt_of_le lo hb.size
  clear hb
  generalize w1.heap.size = gv at *
  with_reducible refine (CD.out _ _ HL.out (s3_two v0 v1 v2 v3 v4 v5) HM.out).mono ?_
  rintro e_ w3 ⟨rfl, hb⟩
  replace HB := Lib.hid (on_below HB.out hb)
  replace HL := Lib.hid (HL.out.below hb)
  replace HM := Lib.hid (HM.out.below hb)
  replace p0 := keepc hb p0
  replace p1 := keepc hb p1
  replace p2 := keepc hb p2
  replace q0 := keepc hb q0
  replace q1 := keepc hb q1
  replace q2 := keepc hb q2
  replace o0 := keepc hb o0
  replace o1 := keepc hb o1
  replace v0 := keepc hb v0
  replace v1 := keepc hb v1
  replace v2 := keepc hb v2
  replace v3 := keepc hb v3
  replace v4 := keepc hb v4
  replace v5 := keepc hb v5
  replace lp := Nat.lt_of_lt_of_le lp hb.size
  replace lq := Nat.lt_of_lt_of_le lq hb.size
  replace lo := Nat.lt_of_lt_of_le lo hb.size
  replace lv := Nat.lt_of_lt_of_le lv hb.size
  clear hb
  go_wp2_with fail
  have d0 : World.cell? (w3.alloc (.cells #[.int .i64 x, .int .i64 y, .int .i64 z] 27)) ⟨w3.heap.size, 0, none⟩ = some (.int .i64 x) := by simp [go_sem]
  have d1 : World.cell? (w3.alloc (.cells #[.int .i64 x, .int .i64 y, .int .i64 z] 27)) ⟨w3.heap.size, 1, none⟩ = some (.int .i64 y) := by simp [go_sem]
  have d2 : World.cell? (w3.alloc (.cells #[.int .i64 x, .int .i64 y, .int .i64 z] 27)) ⟨w3.heap.size, 2, none⟩ = some (.int .i64 z) := by simp [go_sem]
  have ld : w3.heap.size < (w3.alloc (.cells #[.int .i64 x, .int .i64 y, .int .i64 z] 27)).heap.size := by simp
  have hb : Below w3.heap.size w3 (w3.alloc (.cells #[.int .i64 x, .int .i64 y, .int .i64 z] 27)) := below_new _ _
  generalize w3.alloc (.cells #[.int .i64 x, .int .i64 y, .int .i64 z] 27) = w4 at *
  replace HB := Lib.hid (on_below HB.out hb)
  replace HL := Lib.hid (HL.out.below hb)
  replace HM := Lib.hid (HM.out.below hb)
  replace p0 := keepc hb p0
  replace p1 := keepc hb p1
  replace p2 := keepc hb p2
  replace q0 := keepc hb q0
  replace q1 := keepc hb q1
  replace q2 := keepc hb q2
  replace o0 := keepc hb o0
  replace o1 := keepc hb o1
  replace v0 := keepc hb v0
  replace v1 := keepc hb v1
  replace v2 := keepc hb v2
  replace v3 := keepc hb v3
  replace v4 := keepc hb v4
  replace v5 := keepc hb v5
  replace lp := Nat.lt_of_lt_of_le lp hb.size
  replace lq := Nat.lt_of_lt_of_le lq hb.size
  replace lo := Nat.lt_of_lt_of_le lo hb.size
  replace lv := Nat.lt_of_lt_of_le lv hb.size
  clear hb
  generalize w3.heap.size = gd at *
  with_reducible refine (CI.out _).mono ?_
  rintro e_ w5 ⟨rfl, hb⟩
  replace HB := Lib.hid (on_below HB.out hb)
  replace HL := Lib.hid (HL.out.below hb)
  replace HM := Lib.hid (HM.out.below hb)
  replace p0 := keepc hb p0
  replace p1 := keepc hb p1
  replace p2 := keepc hb p2
  replace q0 := keepc hb q0
  replace q1 := keepc hb q1
  replace q2 := keepc hb q2
  replace o0 := keepc hb o0
  replace o1 := keepc hb o1
  replace v0 := keepc hb v0
  replace v1 := keepc hb v1
  replace v2 := keepc hb v2
  replace v3 := keepc hb v3
  replace v4 := keepc hb v4
  replace v5 := keepc hb v5
  replace d0 := keepc hb d0
  replace d1 := keepc hb d1
  replace d2 := keepc hb d2
  replace lp := Nat.lt_of_lt_of_le lp hb.size
  replace lq := Nat.lt_of_lt_of_le lq hb.size
  replace lo := Nat.lt_of_lt_of_le lo hb.size
  replace lv := Nat.lt_of_lt_of_le lv hb.size
  replace ld := Nat.lt_of_lt_of_le ld hb.size
  clear hb
  go_wp2_with fail
  with_reducible refine (CW.out _).mono ?_
  rintro e_ w6 ⟨rfl, hb⟩
  replace HB := Lib.hid (on_below HB.out hb)
  replace HL := Lib.hid (HL.out.below hb)
  replace HM := Lib.hid (HM.out.below hb)
  replace p0 := keepc hb p0
  replace p1 := keepc hb p1
  replace p2 := keepc hb p2
  replace q0 := keepc hb q0
  replace q1 := keepc hb q1
  replace q2 := keepc hb q2
  replace o0 := keepc hb o0
  replace o1 := keepc hb o1
  replace v0 := keepc hb v0
  replace v1 := keepc hb v1
  replace v2 := keepc hb v2
  replace v3 := keepc hb v3
  replace v4 := keepc hb v4
  replace v5 := keepc hb v5
  replace d0 := keepc hb d0
  replace d1 := keepc hb d1
  replace d2 := keepc hb d2
  replace lp := Nat.lt_of_lt_of_le lp hb.size
  replace lq := Nat.lt_of_lt_of_le lq hb.size
  replace lo := Nat.lt_of_lt_of_le lo hb.size
  replace lv := Nat.lt_of_lt_of_le lv hb.size
  replace ld := Nat.lt_of_lt_of_le ld hb.size
  clear hb
  go_wp2_with fail
  have y0 : World.cell? (w6.alloc (.cells #[.int .i64 ex, .int .i64 ey, .int .i64 ez, .int .i64 0, .int .i64 0, .int .i64 0] 137)) ⟨w6.heap.size, 0, none⟩ = some (.int .i64 ex) := by simp [go_sem]
  have y1 : World.cell? (w6.alloc (.cells #[.int .i64 ex, .int .i64 ey, .int .i64 ez, .int .i64 0, .int .i64 0, .int .i64 0] 137)) ⟨w6.heap.size, 1, none⟩ = some (.int .i64 ey) := by simp [go_sem]
  have y2 : World.cell? (w6.alloc (.cells #[.int .i64 ex, .int .i64 ey, .int .i64 ez, .int .i64 0, .int .i64 0, .int .i64 0] 137)) ⟨w6.heap.size, 2, none⟩ = some (.int .i64 ez) := by simp [go_sem]
  have y3 : World.cell? (w6.alloc (.cells #[.int .i64 ex, .int .i64 ey, .int .i64 ez, .int .i64 0, .int .i64 0, .int .i64 0] 137)) ⟨w6.heap.size, 3, none⟩ = some (.int .i64 0) := by simp [go_sem]
  have y4 : World.cell? (w6.alloc (.cells #[.int .i64 ex, .int .i64 ey, .int .i64 ez, .int .i64 0, .int .i64 0, .int .i64 0] 137)) ⟨w6.heap.size, 4, none⟩ = some (.int .i64 0) := by simp [go_sem]
  have y5 : World.cell? (w6.alloc (.cells #[.int .i64 ex, .int .i64 ey, .int .i64 ez, .int .i64 0, .int .i64 0, .int .i64 0] 137)) ⟨w6.heap.size, 5, none⟩ = some (.int .i64 0) := by simp [go_sem]
  have ly : w6.heap.size < (w6.alloc (.cells #[.int .i64 ex, .int .i64 ey, .int .i64 ez, .int .i64 0, .int .i64 0, .int .i64 0] 137)).heap.size := by simp
  have hb : Below w6.heap.size w6 (w6.alloc (.cells #[.int .i64 ex, .int .i64 ey, .int .i64 ez, .int .i64 0, .int .i64 0, .int .i64 0] 137)) := below_new _ _
  generalize w6.alloc (.cells #[.int .i64 ex, .int .i64 ey, .int .i64 ez, .int .i64 0, .int .i64 0, .int .i64 0] 137) = w7 at *
  replace HB := Lib.hid (on_below HB.out hb)
  replace HL := Lib.hid (HL.out.below hb)
  replace HM := Lib.hid (HM.out.below hb)
  replace p0 := keepc hb p0
  replace p1 := keepc hb p1
  replace p2 := keepc hb p2
  replace q0 := keepc hb q0
  replace q1 := keepc hb q1
  replace q2 := keepc hb q2
  replace o0 := keepc hb o0
  replace o1 := keepc hb o1
  replace v0 := keepc hb v0
  replace v1 := keepc hb v1
  replace v2 := keepc hb v2
  replace v3 := keepc hb v3
  replace v4 := keepc hb v4
  replace v5 := keepc hb v5
  replace d0 := keepc hb d0
  replace d1 := keepc hb d1
  replace d2 := keepc hb d2
  replace lp := Nat.lt_of_lt_of_le lp hb.size
  replace lq := Nat.lt_of_lt_of_le lq hb.size
  replace lo := Nat.lt_of_lt_of_le lo hb.size
  replace lv := Nat.lt_of_lt_of_le lv hb.size
  replace ld := Nat.lt_of_lt_of_le ld hb.size
  clear hb
  generalize w6.heap.size = gy at *
  go_ret2
  exact ⟨rfl, HB.out⟩
set_option maxRecDepth 100000 in
set_option maxHeartbeats 2000000 in
theorem glr_6 (A : Option Addr) (C : Nat) (T : List Q4) (m ex ey ez tx ty tz N Q : Int) (B : Option Addr) (D : Nat) (L : List Bv) (h4 : T.length ≤ 9223372036854775807) (h5 : L.length ≤ 9223372036854775807) (hs : Bsm L) (x y z : Int) (hd : DfR T m L [⟨ex, ey, ez⟩, ⟨tx, ty, tz⟩] x y z true 0) (iN : I64 N) (iQ : I64 Q) (hq : shr N Q = true) (hne : ¬ (tx = ex ∧ ty = ey ∧ tz = ez)) (he : vv ex ey ez = true) (ht : vv tx ty tz = true) (hx : vv x y z = true) (hn : ¬ (x = 0 ∧ y = 0 ∧ z = 0)) (hb : Bds L) (hv : vv (ex + x) (ey + y) (ez + z) = true) (hg : vv (tx - ex) (ty - ey) (tz - ez) = false) (w : World) (hl : S4 w A T) (hm : BdS w B L) :
    Calls Try.prog 41 #[.slice A T.length C, .int .i64 m, .agg #[.int .i64 ex, .int .i64 ey, .int .i64 ez], .agg #[.int .i64 tx, .int .i64 ty, .int .i64 tz], .agg #[.int .i64 N, .int .i64 Q], .slice B L.length D] w fun e_ w' => e_ = .returned (.tuple #[.bool false, .int .i64 3]) ∧ Below w.heap.size w w' := by
  have CD := Lib.hid (fun g W (a : S4 W A T) (b : S3 W (some ⟨g, 0, none⟩) [⟨ex, ey, ez⟩, ⟨tx, ty, tz⟩]) (c : BdS W B L) => df_is A C T m B D L (some ⟨g, 0, none⟩) 2 [⟨ex, ey, ez⟩, ⟨tx, ty, tz⟩] h4 h5 (by simp) (fun _ => hs) x y z true 0 hd W a b c)
  simp only [List.length_cons, List.length_nil, Nat.zero_add, Nat.reduceAdd] at CD
  have CI := Lib.hid (fun W => isshare_is N Q true iN iQ hq W)
  have eV : ∀ W, (binOp .eql 27 (.agg #[.int .i64 tx, .int .i64 ty, .int .i64 tz]) (.agg #[.int .i64 ex, .int .i64 ey, .int .i64 ez])).run Try.prog W = .ok (.bool false) W := fun W => vec_eq (r := false) (decide_eq_false hne) W
  have CW := Lib.hid (fun W => wayfrom_is ex ey ez x y z (ex + x) (ey + y) (ez + z) 0 (by rw [he, hx, hv]; rfl) rfl rfl rfl W)
  have CG := Lib.hid (fun W => sub_is tx ty tz ex ey ez 0 0 0 3 (by rw [ht, he, hg]; rfl) rfl rfl rfl W)
  generalize ex + x = ux at *
  generalize ey + y = uy at *
  generalize ez + z = uz at *
  clear hd hs iN iQ hq hne he ht hx hn hb hv hg
  have HL := Lib.hid hl
  clear hl
  have HM := Lib.hid hm
  clear hm
  have p0 : World.cell? (((w.alloc (.cells #[.int .i64 ex, .int .i64 ey, .int .i64 ez] 27)).alloc (.cells #[.int .i64 tx, .int .i64 ty, .int .i64 tz] 27)).alloc (.cells #[.int .i64 N, .int .i64 Q] 36)) ⟨w.heap.size, 0, none⟩ = some (.int .i64 ex) := by simp [go_sem]
  have p1 : World.cell? (((w.alloc (.cells #[.int .i64 ex, .int .i64 ey, .int .i64 ez] 27)).alloc (.cells #[.int .i64 tx, .int .i64 ty, .int .i64 tz] 27)).alloc (.cells #[.int .i64 N, .int .i64 Q] 36)) ⟨w.heap.size, 1, none⟩ = some (.int .i64 ey) := by simp [go_sem]
  have p2 : World.cell? (((w.alloc (.cells #[.int .i64 ex, .int .i64 ey, .int .i64 ez] 27)).alloc (.cells #[.int .i64 tx, .int .i64 ty, .int .i64 tz] 27)).alloc (.cells #[.int .i64 N, .int .i64 Q] 36)) ⟨w.heap.size, 2, none⟩ = some (.int .i64 ez) := by simp [go_sem]
  have lp : w.heap.size < (((w.alloc (.cells #[.int .i64 ex, .int .i64 ey, .int .i64 ez] 27)).alloc (.cells #[.int .i64 tx, .int .i64 ty, .int .i64 tz] 27)).alloc (.cells #[.int .i64 N, .int .i64 Q] 36)).heap.size := by simp <;> omega
  have q0 : World.cell? (((w.alloc (.cells #[.int .i64 ex, .int .i64 ey, .int .i64 ez] 27)).alloc (.cells #[.int .i64 tx, .int .i64 ty, .int .i64 tz] 27)).alloc (.cells #[.int .i64 N, .int .i64 Q] 36)) ⟨w.heap.size + 1, 0, none⟩ = some (.int .i64 tx) := by simp [go_sem]
  have q1 : World.cell? (((w.alloc (.cells #[.int .i64 ex, .int .i64 ey, .int .i64 ez] 27)).alloc (.cells #[.int .i64 tx, .int .i64 ty, .int .i64 tz] 27)).alloc (.cells #[.int .i64 N, .int .i64 Q] 36)) ⟨w.heap.size + 1, 1, none⟩ = some (.int .i64 ty) := by simp [go_sem]
  have q2 : World.cell? (((w.alloc (.cells #[.int .i64 ex, .int .i64 ey, .int .i64 ez] 27)).alloc (.cells #[.int .i64 tx, .int .i64 ty, .int .i64 tz] 27)).alloc (.cells #[.int .i64 N, .int .i64 Q] 36)) ⟨w.heap.size + 1, 2, none⟩ = some (.int .i64 tz) := by simp [go_sem]
  have lq : w.heap.size + 1 < (((w.alloc (.cells #[.int .i64 ex, .int .i64 ey, .int .i64 ez] 27)).alloc (.cells #[.int .i64 tx, .int .i64 ty, .int .i64 tz] 27)).alloc (.cells #[.int .i64 N, .int .i64 Q] 36)).heap.size := by simp <;> omega
  have o0 : World.cell? (((w.alloc (.cells #[.int .i64 ex, .int .i64 ey, .int .i64 ez] 27)).alloc (.cells #[.int .i64 tx, .int .i64 ty, .int .i64 tz] 27)).alloc (.cells #[.int .i64 N, .int .i64 Q] 36)) ⟨w.heap.size + 1 + 1, 0, none⟩ = some (.int .i64 N) := by simp [go_sem]
  have o1 : World.cell? (((w.alloc (.cells #[.int .i64 ex, .int .i64 ey, .int .i64 ez] 27)).alloc (.cells #[.int .i64 tx, .int .i64 ty, .int .i64 tz] 27)).alloc (.cells #[.int .i64 N, .int .i64 Q] 36)) ⟨w.heap.size + 1 + 1, 1, none⟩ = some (.int .i64 Q) := by simp [go_sem]
  have lo : w.heap.size + 1 + 1 < (((w.alloc (.cells #[.int .i64 ex, .int .i64 ey, .int .i64 ez] 27)).alloc (.cells #[.int .i64 tx, .int .i64 ty, .int .i64 tz] 27)).alloc (.cells #[.int .i64 N, .int .i64 Q] 36)).heap.size := by simp <;> omega
  have HB := Lib.hid (show Below w.heap.size w (((w.alloc (.cells #[.int .i64 ex, .int .i64 ey, .int .i64 ez] 27)).alloc (.cells #[.int .i64 tx, .int .i64 ty, .int .i64 tz] 27)).alloc (.cells #[.int .i64 N, .int .i64 Q] 36)) from ((((Below.refl _ _).alloc (by simp <;> omega) _).alloc (by simp <;> omega) _).alloc (by simp <;> omega) _))
  go_enter Try.func41, Try.ntmps41
  go_upto_region 1 with fail
  generalize ((w.alloc (.cells #[.int .i64 ex, .int .i64 ey, .int .i64 ez] 27)).alloc (.cells #[.int .i64 tx, .int .i64 ty, .int .i64 tz] 27)).alloc (.cells #[.int .i64 N, .int .i64 Q] 36) = w1 at *
  replace HL := Lib.hid (HL.out.below HB.out)
  replace HM := Lib.hid (HM.out.below HB.out)
  go_wp2_with fail
  have v0 : World.cell? (w1.alloc (.cells #[.int .i64 ex, .int .i64 ey, .int .i64 ez, .int .i64 tx, .int .i64 ty, .int .i64 tz] 27)) ⟨w1.heap.size, 0, none⟩ = some (.int .i64 ex) := by simp [go_sem]
  have v1 : World.cell? (w1.alloc (.cells #[.int .i64 ex, .int .i64 ey, .int .i64 ez, .int .i64 tx, .int .i64 ty, .int .i64 tz] 27)) ⟨w1.heap.size, 1, none⟩ = some (.int .i64 ey) := by simp [go_sem]
  have v2 : World.cell? (w1.alloc (.cells #[.int .i64 ex, .int .i64 ey, .int .i64 ez, .int .i64 tx, .int .i64 ty, .int .i64 tz] 27)) ⟨w1.heap.size, 2, none⟩ = some (.int .i64 ez) := by simp [go_sem]
  have v3 : World.cell? (w1.alloc (.cells #[.int .i64 ex, .int .i64 ey, .int .i64 ez, .int .i64 tx, .int .i64 ty, .int .i64 tz] 27)) ⟨w1.heap.size, 3, none⟩ = some (.int .i64 tx) := by simp [go_sem]
  have v4 : World.cell? (w1.alloc (.cells #[.int .i64 ex, .int .i64 ey, .int .i64 ez, .int .i64 tx, .int .i64 ty, .int .i64 tz] 27)) ⟨w1.heap.size, 4, none⟩ = some (.int .i64 ty) := by simp [go_sem]
  have v5 : World.cell? (w1.alloc (.cells #[.int .i64 ex, .int .i64 ey, .int .i64 ez, .int .i64 tx, .int .i64 ty, .int .i64 tz] 27)) ⟨w1.heap.size, 5, none⟩ = some (.int .i64 tz) := by simp [go_sem]
  have lv : w1.heap.size < (w1.alloc (.cells #[.int .i64 ex, .int .i64 ey, .int .i64 ez, .int .i64 tx, .int .i64 ty, .int .i64 tz] 27)).heap.size := by simp
  have hb : Below w1.heap.size w1 (w1.alloc (.cells #[.int .i64 ex, .int .i64 ey, .int .i64 ez, .int .i64 tx, .int .i64 ty, .int .i64 tz] 27)) := below_new _ _
  generalize w1.alloc (.cells #[.int .i64 ex, .int .i64 ey, .int .i64 ez, .int .i64 tx, .int .i64 ty, .int .i64 tz] 27) = w2 at *
  replace HB := Lib.hid (on_below HB.out hb)
  replace HL := Lib.hid (HL.out.below hb)
  replace HM := Lib.hid (HM.out.below hb)
  replace p0 := keepc hb p0
  replace p1 := keepc hb p1
  replace p2 := keepc hb p2
  replace q0 := keepc hb q0
  replace q1 := keepc hb q1
  replace q2 := keepc hb q2
  replace o0 := keepc hb o0
  replace o1 := keepc hb o1
  replace lp := Nat.lt_of_lt_of_le lp hb.size
  replace lq := Nat.lt_of_lt_of_le lq hb.size
  replace lo := Nat.lt_of_lt_of_le lo hb.size
  clear hb
  generalize w1.heap.size = gv at *
  with_reducible refine (CD.out _ _ HL.out (s3_two v0 v1 v2 v3 v4 v5) HM.out).mono ?_
  rintro e_ w3 ⟨rfl, hb⟩
  replace HB := Lib.hid (on_below HB.out hb)
  replace HL := Lib.hid (HL.out.below hb)
  replace HM := Lib.hid (HM.out.below hb)
  replace p0 := keepc hb p0
  replace p1 := keepc hb p1
  replace p2 := keepc hb p2
  replace q0 := keepc hb q0
  replace q1 := keepc hb q1
  replace q2 := keepc hb q2
  replace o0 := keepc hb o0
  replace o1 := keepc hb o1
  replace v0 := keepc hb v0
  replace v1 := keepc hb v1
  replace v2 := keepc hb v2
  replace v3 := keepc hb v3
  replace v4 := keepc hb v4
  replace v5 := keepc hb v5
  replace lp := Nat.lt_of_lt_of_le lp hb.size
  replace lq := Nat.lt_of_lt_of_le lq hb.size
  replace lo := Nat.lt_of_lt_of_le lo hb.size
  replace lv := Nat.lt_of_lt_of_le lv hb.size
  clear hb
  go_wp2_with fail
  have d0 : World.cell? (w3.alloc (.cells #[.int .i64 x, .int .i64 y, .int .i64 z] 27)) ⟨w3.heap.size, 0, none⟩ = some (.int .i64 x) := by simp [go_sem]
  have d1 : World.cell? (w3.alloc (.cells #[.int .i64 x, .int .i64 y, .int .i64 z] 27)) ⟨w3.heap.size, 1, none⟩ = some (.int .i64 y) := by simp [go_sem]
  have d2 : World.cell? (w3.alloc (.cells #[.int .i64 x, .int .i64 y, .int .i64 z] 27)) ⟨w3.heap.size, 2, none⟩ = some (.int .i64 z) := by simp [go_sem]
  have ld : w3.heap.size < (w3.alloc (.cells #[.int .i64 x, .int .i64 y, .int .i64 z] 27)).heap.size := by simp
  have hb : Below w3.heap.size w3 (w3.alloc (.cells #[.int .i64 x, .int .i64 y, .int .i64 z] 27)) := below_new _ _
  generalize w3.alloc (.cells #[.int .i64 x, .int .i64 y, .int .i64 z] 27) = w4 at *
  replace HB := Lib.hid (on_below HB.out hb)
  replace HL := Lib.hid (HL.out.below hb)
  replace HM := Lib.hid (HM.out.below hb)
  replace p0 := keepc hb p0
  replace p1 := keepc hb p1
  replace p2 := keepc hb p2
  replace q0 := keepc hb q0
  replace q1 := keepc hb q1
  replace q2 := keepc hb q2
  replace o0 := keepc hb o0
  replace o1 := keepc hb o1
  replace v0 := keepc hb v0
  replace v1 := keepc hb v1
  replace v2 := keepc hb v2
  replace v3 := keepc hb v3
  replace v4 := keepc hb v4
  replace v5 := keepc hb v5
  replace lp := Nat.lt_of_lt_of_le lp hb.size
  replace lq := Nat.lt_of_lt_of_le lq hb.size
  replace lo := Nat.lt_of_lt_of_le lo hb.size
  replace lv := Nat.lt_of_lt_of_le lv hb.size
  clear hb
  generalize w3.heap.size = gd at *
  with_reducible refine (CI.out _).mono ?_
  rintro e_ w5 ⟨rfl, hb⟩
  replace HB := Lib.hid (on_below HB.out hb)
  replace HL := Lib.hid (HL.out.below hb)
  replace HM := Lib.hid (HM.out.below hb)
  replace p0 := keepc hb p0
  replace p1 := keepc hb p1
  replace p2 := keepc hb p2
  replace q0 := keepc hb q0
  replace q1 := keepc hb q1
  replace q2 := keepc hb q2
  replace o0 := keepc hb o0
  replace o1 := keepc hb o1
  replace v0 := keepc hb v0
  replace v1 := keepc hb v1
  replace v2 := keepc hb v2
  replace v3 := keepc hb v3
  replace v4 := keepc hb v4
  replace v5 := keepc hb v5
  replace d0 := keepc hb d0
  replace d1 := keepc hb d1
  replace d2 := keepc hb d2
  replace lp := Nat.lt_of_lt_of_le lp hb.size
  replace lq := Nat.lt_of_lt_of_le lq hb.size
  replace lo := Nat.lt_of_lt_of_le lo hb.size
  replace lv := Nat.lt_of_lt_of_le lv hb.size
  replace ld := Nat.lt_of_lt_of_le ld hb.size
  clear hb
  go_wp2_with fail
  with_reducible refine (CW.out _).mono ?_
  rintro e_ w6 ⟨rfl, hb⟩
  replace HB := Lib.hid (on_below HB.out hb)
  replace HL := Lib.hid (HL.out.below hb)
  replace HM := Lib.hid (HM.out.below hb)
  replace p0 := keepc hb p0
  replace p1 := keepc hb p1
  replace p2 := keepc hb p2
  replace q0 := keepc hb q0
  replace q1 := keepc hb q1
  replace q2 := keepc hb q2
  replace o0 := keepc hb o0
  replace o1 := keepc hb o1
  replace v0 := keepc hb v0
  replace v1 := keepc hb v1
  replace v2 := keepc hb v2
  replace v3 := keepc hb v3
  replace v4 := keepc hb v4
  replace v5 := keepc hb v5
  replace d0 := keepc hb d0
  replace d1 := keepc hb d1
  replace d2 := keepc hb d2
  replace lp := Nat.lt_of_lt_of_le lp hb.size
  replace lq := Nat.lt_of_lt_of_le lq hb.size
  replace lo := Nat.lt_of_lt_of_le lo hb.size
  replace lv := Nat.lt_of_lt_of_le lv hb.size
  replace ld := Nat.lt_of_lt_of_le ld hb.size
  clear hb
  go_wp2_with fail
  have y0 : World.cell? (w6.alloc (.cells #[.int .i64 ex, .int .i64 ey, .int .i64 ez, .int .i64 ux, .int .i64 uy, .int .i64 uz] 137)) ⟨w6.heap.size, 0, none⟩ = some (.int .i64 ex) := by simp [go_sem]
  have y1 : World.cell? (w6.alloc (.cells #[.int .i64 ex, .int .i64 ey, .int .i64 ez, .int .i64 ux, .int .i64 uy, .int .i64 uz] 137)) ⟨w6.heap.size, 1, none⟩ = some (.int .i64 ey) := by simp [go_sem]
  have y2 : World.cell? (w6.alloc (.cells #[.int .i64 ex, .int .i64 ey, .int .i64 ez, .int .i64 ux, .int .i64 uy, .int .i64 uz] 137)) ⟨w6.heap.size, 2, none⟩ = some (.int .i64 ez) := by simp [go_sem]
  have y3 : World.cell? (w6.alloc (.cells #[.int .i64 ex, .int .i64 ey, .int .i64 ez, .int .i64 ux, .int .i64 uy, .int .i64 uz] 137)) ⟨w6.heap.size, 3, none⟩ = some (.int .i64 ux) := by simp [go_sem]
  have y4 : World.cell? (w6.alloc (.cells #[.int .i64 ex, .int .i64 ey, .int .i64 ez, .int .i64 ux, .int .i64 uy, .int .i64 uz] 137)) ⟨w6.heap.size, 4, none⟩ = some (.int .i64 uy) := by simp [go_sem]
  have y5 : World.cell? (w6.alloc (.cells #[.int .i64 ex, .int .i64 ey, .int .i64 ez, .int .i64 ux, .int .i64 uy, .int .i64 uz] 137)) ⟨w6.heap.size, 5, none⟩ = some (.int .i64 uz) := by simp [go_sem]
  have ly : w6.heap.size < (w6.alloc (.cells #[.int .i64 ex, .int .i64 ey, .int .i64 ez, .int .i64 ux, .int .i64 uy, .int .i64 uz] 137)).heap.size := by simp
  have hb : Below w6.heap.size w6 (w6.alloc (.cells #[.int .i64 ex, .int .i64 ey, .int .i64 ez, .int .i64 ux, .int .i64 uy, .int .i64 uz] 137)) := below_new _ _
  generalize w6.alloc (.cells #[.int .i64 ex, .int .i64 ey, .int .i64 ez, .int .i64 ux, .int .i64 uy, .int .i64 uz] 137) = w7 at *
  replace HB := Lib.hid (on_below HB.out hb)
  replace HL := Lib.hid (HL.out.below hb)
  replace HM := Lib.hid (HM.out.below hb)
  replace p0 := keepc hb p0
  replace p1 := keepc hb p1
  replace p2 := keepc hb p2
  replace q0 := keepc hb q0
  replace q1 := keepc hb q1
  replace q2 := keepc hb q2
  replace o0 := keepc hb o0
  replace o1 := keepc hb o1
  replace v0 := keepc hb v0
  replace v1 := keepc hb v1
  replace v2 := keepc hb v2
  replace v3 := keepc hb v3
  replace v4 := keepc hb v4
  replace v5 := keepc hb v5
  replace d0 := keepc hb d0
  replace d1 := keepc hb d1
  replace d2 := keepc hb d2
  replace lp := Nat.lt_of_lt_of_le lp hb.size
  replace lq := Nat.lt_of_lt_of_le lq hb.size
  replace lo := Nat.lt_of_lt_of_le lo hb.size
  replace lv := Nat.lt_of_lt_of_le lv hb.size
  replace ld := Nat.lt_of_lt_of_le ld hb.size
  clear hb
  generalize w6.heap.size = gy at *
  with_reducible refine (CG.out _).mono ?_
  rintro e_ w8 ⟨rfl, hb⟩
  replace HB := Lib.hid (on_below HB.out hb)
  replace HL := Lib.hid (HL.out.below hb)
  replace HM := Lib.hid (HM.out.below hb)
  replace p0 := keepc hb p0
  replace p1 := keepc hb p1
  replace p2 := keepc hb p2
  replace q0 := keepc hb q0
  replace q1 := keepc hb q1
  replace q2 := keepc hb q2
  replace o0 := keepc hb o0
  replace o1 := keepc hb o1
  replace v0 := keepc hb v0
  replace v1 := keepc hb v1
  replace v2 := keepc hb v2
  replace v3 := keepc hb v3
  replace v4 := keepc hb v4
  replace v5 := keepc hb v5
  replace d0 := keepc hb d0
  replace d1 := keepc hb d1
  replace d2 := keepc hb d2
  replace y0 := keepc hb y0
  replace y1 := keepc hb y1
  replace y2 := keepc hb y2
  replace y3 := keepc hb y3
  replace y4 := keepc hb y4
  replace y5 := keepc hb y5
  replace lp := Nat.lt_of_lt_of_le lp hb.size
  replace lq := Nat.lt_of_lt_of_le lq hb.size
  replace lo := Nat.lt_of_lt_of_le lo hb.size
  replace lv := Nat.lt_of_lt_of_le lv hb.size
  replace ld := Nat.lt_of_lt_of_le ld hb.size
  replace ly := Nat.lt_of_lt_of_le ly hb.size
  clear hb
  go_wp2_with fail
  have s0 : World.cell? (w8.alloc (.cells #[.int .i64 0, .int .i64 0, .int .i64 0] 27)) ⟨w8.heap.size, 0, none⟩ = some (.int .i64 0) := by simp [go_sem]
  have s1 : World.cell? (w8.alloc (.cells #[.int .i64 0, .int .i64 0, .int .i64 0] 27)) ⟨w8.heap.size, 1, none⟩ = some (.int .i64 0) := by simp [go_sem]
  have s2 : World.cell? (w8.alloc (.cells #[.int .i64 0, .int .i64 0, .int .i64 0] 27)) ⟨w8.heap.size, 2, none⟩ = some (.int .i64 0) := by simp [go_sem]
  have ls : w8.heap.size < (w8.alloc (.cells #[.int .i64 0, .int .i64 0, .int .i64 0] 27)).heap.size := by simp
  have hb : Below w8.heap.size w8 (w8.alloc (.cells #[.int .i64 0, .int .i64 0, .int .i64 0] 27)) := below_new _ _
  generalize w8.alloc (.cells #[.int .i64 0, .int .i64 0, .int .i64 0] 27) = w9 at *
  replace HB := Lib.hid (on_below HB.out hb)
  replace HL := Lib.hid (HL.out.below hb)
  replace HM := Lib.hid (HM.out.below hb)
  replace p0 := keepc hb p0
  replace p1 := keepc hb p1
  replace p2 := keepc hb p2
  replace q0 := keepc hb q0
  replace q1 := keepc hb q1
  replace q2 := keepc hb q2
  replace o0 := keepc hb o0
  replace o1 := keepc hb o1
  replace v0 := keepc hb v0
  replace v1 := keepc hb v1
  replace v2 := keepc hb v2
  replace v3 := keepc hb v3
  replace v4 := keepc hb v4
  replace v5 := keepc hb v5
  replace d0 := keepc hb d0
  replace d1 := keepc hb d1
  replace d2 := keepc hb d2
  replace y0 := keepc hb y0
  replace y1 := keepc hb y1
  replace y2 := keepc hb y2
  replace y3 := keepc hb y3
  replace y4 := keepc hb y4
  replace y5 := keepc hb y5
  replace lp := Nat.lt_of_lt_of_le lp hb.size
  replace lq := Nat.lt_of_lt_of_le lq hb.size
  replace lo := Nat.lt_of_lt_of_le lo hb.size
  replace lv := Nat.lt_of_lt_of_le lv hb.size
  replace ld := Nat.lt_of_lt_of_le ld hb.size
  replace ly := Nat.lt_of_lt_of_le ly hb.size
  clear hb
  generalize w8.heap.size = gs at *
  go_ret2
  exact ⟨rfl, HB.out⟩
set_option maxRecDepth 100000 in
set_option maxHeartbeats 2000000 in
theorem glr_7 (A : Option Addr) (C : Nat) (T : List Q4) (m ex ey ez tx ty tz N Q : Int) (B : Option Addr) (D : Nat) (L : List Bv) (h4 : T.length ≤ 9223372036854775807) (h5 : L.length ≤ 9223372036854775807) (hs : Bsm L) (x y z : Int) (hd : DfR T m L [⟨ex, ey, ez⟩, ⟨tx, ty, tz⟩] x y z true 0) (iN : I64 N) (iQ : I64 Q) (hq : shr N Q = true) (hne : ¬ (tx = ex ∧ ty = ey ∧ tz = ez)) (he : vv ex ey ez = true) (ht : vv tx ty tz = true) (hx : vv x y z = true) (hn : ¬ (x = 0 ∧ y = 0 ∧ z = 0)) (hb : Bds L) (hv : vv (ex + x) (ey + y) (ez + z) = true) (hg : vv (tx - ex) (ty - ey) (tz - ez) = true) (hw : nr (dt x y z (tx - ex) (ty - ey) (tz - ez)) (dt x y z x y z) (dt (tx - ex) (ty - ey) (tz - ez) (tx - ex) (ty - ey) (tz - ez)) N Q = false) (w : World) (hl : S4 w A T) (hm : BdS w B L) :
    Calls Try.prog 41 #[.slice A T.length C, .int .i64 m, .agg #[.int .i64 ex, .int .i64 ey, .int .i64 ez], .agg #[.int .i64 tx, .int .i64 ty, .int .i64 tz], .agg #[.int .i64 N, .int .i64 Q], .slice B L.length D] w fun e_ w' => e_ = .returned (.tuple #[.bool false, .int .i64 0]) ∧ Below w.heap.size w w' := by
  have CD := Lib.hid (fun g W (a : S4 W A T) (b : S3 W (some ⟨g, 0, none⟩) [⟨ex, ey, ez⟩, ⟨tx, ty, tz⟩]) (c : BdS W B L) => df_is A C T m B D L (some ⟨g, 0, none⟩) 2 [⟨ex, ey, ez⟩, ⟨tx, ty, tz⟩] h4 h5 (by simp) (fun _ => hs) x y z true 0 hd W a b c)
  simp only [List.length_cons, List.length_nil, Nat.zero_add, Nat.reduceAdd] at CD
  have CI := Lib.hid (fun W => isshare_is N Q true iN iQ hq W)
  have eV : ∀ W, (binOp .eql 27 (.agg #[.int .i64 tx, .int .i64 ty, .int .i64 tz]) (.agg #[.int .i64 ex, .int .i64 ey, .int .i64 ez])).run Try.prog W = .ok (.bool false) W := fun W => vec_eq (r := false) (decide_eq_false hne) W
  have CW := Lib.hid (fun W => wayfrom_is ex ey ez x y z (ex + x) (ey + y) (ez + z) 0 (by rw [he, hx, hv]; rfl) rfl rfl rfl W)
  have CG := Lib.hid (fun W => sub_is tx ty tz ex ey ez (tx - ex) (ty - ey) (tz - ez) 0 (by rw [ht, he, hg]; rfl) rfl rfl rfl W)
  have CN := Lib.hid (fun W => near_is x y z (tx - ex) (ty - ey) (tz - ez) N Q 0 false iN iQ (by rw [dr_iff.2 ⟨vv_iff.1 hx, hn⟩, dr_iff.2 ⟨vv_iff.1 hg, fun k => hne ⟨by omega, by omega, by omega⟩⟩, hq]; rfl) (by rw [hw]; rfl) W)
  generalize ex + x = ux at *
  generalize ey + y = uy at *
  generalize ez + z = uz at *
  generalize tx - ex = gx at *
  generalize ty - ey = gy_ at *
  generalize tz - ez = gz at *
  clear hd hs iN iQ hq hne he ht hx hn hb hv hg hw
  have HL := Lib.hid hl
  clear hl
  have HM := Lib.hid hm
  clear hm
  have p0 : World.cell? (((w.alloc (.cells #[.int .i64 ex, .int .i64 ey, .int .i64 ez] 27)).alloc (.cells #[.int .i64 tx, .int .i64 ty, .int .i64 tz] 27)).alloc (.cells #[.int .i64 N, .int .i64 Q] 36)) ⟨w.heap.size, 0, none⟩ = some (.int .i64 ex) := by simp [go_sem]
  have p1 : World.cell? (((w.alloc (.cells #[.int .i64 ex, .int .i64 ey, .int .i64 ez] 27)).alloc (.cells #[.int .i64 tx, .int .i64 ty, .int .i64 tz] 27)).alloc (.cells #[.int .i64 N, .int .i64 Q] 36)) ⟨w.heap.size, 1, none⟩ = some (.int .i64 ey) := by simp [go_sem]
  have p2 : World.cell? (((w.alloc (.cells #[.int .i64 ex, .int .i64 ey, .int .i64 ez] 27)).alloc (.cells #[.int .i64 tx, .int .i64 ty, .int .i64 tz] 27)).alloc (.cells #[.int .i64 N, .int .i64 Q] 36)) ⟨w.heap.size, 2, none⟩ = some (.int .i64 ez) := by simp [go_sem]
  have lp : w.heap.size < (((w.alloc (.cells #[.int .i64 ex, .int .i64 ey, .int .i64 ez] 27)).alloc (.cells #[.int .i64 tx, .int .i64 ty, .int .i64 tz] 27)).alloc (.cells #[.int .i64 N, .int .i64 Q] 36)).heap.size := by simp <;> omega
  have q0 : World.cell? (((w.alloc (.cells #[.int .i64 ex, .int .i64 ey, .int .i64 ez] 27)).alloc (.cells #[.int .i64 tx, .int .i64 ty, .int .i64 tz] 27)).alloc (.cells #[.int .i64 N, .int .i64 Q] 36)) ⟨w.heap.size + 1, 0, none⟩ = some (.int .i64 tx) := by simp [go_sem]
  have q1 : World.cell? (((w.alloc (.cells #[.int .i64 ex, .int .i64 ey, .int .i64 ez] 27)).alloc (.cells #[.int .i64 tx, .int .i64 ty, .int .i64 tz] 27)).alloc (.cells #[.int .i64 N, .int .i64 Q] 36)) ⟨w.heap.size + 1, 1, none⟩ = some (.int .i64 ty) := by simp [go_sem]
  have q2 : World.cell? (((w.alloc (.cells #[.int .i64 ex, .int .i64 ey, .int .i64 ez] 27)).alloc (.cells #[.int .i64 tx, .int .i64 ty, .int .i64 tz] 27)).alloc (.cells #[.int .i64 N, .int .i64 Q] 36)) ⟨w.heap.size + 1, 2, none⟩ = some (.int .i64 tz) := by simp [go_sem]
  have lq : w.heap.size + 1 < (((w.alloc (.cells #[.int .i64 ex, .int .i64 ey, .int .i64 ez] 27)).alloc (.cells #[.int .i64 tx, .int .i64 ty, .int .i64 tz] 27)).alloc (.cells #[.int .i64 N, .int .i64 Q] 36)).heap.size := by simp <;> omega
  have o0 : World.cell? (((w.alloc (.cells #[.int .i64 ex, .int .i64 ey, .int .i64 ez] 27)).alloc (.cells #[.int .i64 tx, .int .i64 ty, .int .i64 tz] 27)).alloc (.cells #[.int .i64 N, .int .i64 Q] 36)) ⟨w.heap.size + 1 + 1, 0, none⟩ = some (.int .i64 N) := by simp [go_sem]
  have o1 : World.cell? (((w.alloc (.cells #[.int .i64 ex, .int .i64 ey, .int .i64 ez] 27)).alloc (.cells #[.int .i64 tx, .int .i64 ty, .int .i64 tz] 27)).alloc (.cells #[.int .i64 N, .int .i64 Q] 36)) ⟨w.heap.size + 1 + 1, 1, none⟩ = some (.int .i64 Q) := by simp [go_sem]
  have lo : w.heap.size + 1 + 1 < (((w.alloc (.cells #[.int .i64 ex, .int .i64 ey, .int .i64 ez] 27)).alloc (.cells #[.int .i64 tx, .int .i64 ty, .int .i64 tz] 27)).alloc (.cells #[.int .i64 N, .int .i64 Q] 36)).heap.size := by simp <;> omega
  have HB := Lib.hid (show Below w.heap.size w (((w.alloc (.cells #[.int .i64 ex, .int .i64 ey, .int .i64 ez] 27)).alloc (.cells #[.int .i64 tx, .int .i64 ty, .int .i64 tz] 27)).alloc (.cells #[.int .i64 N, .int .i64 Q] 36)) from ((((Below.refl _ _).alloc (by simp <;> omega) _).alloc (by simp <;> omega) _).alloc (by simp <;> omega) _))
  go_enter Try.func41, Try.ntmps41
  go_upto_region 1 with fail
  generalize ((w.alloc (.cells #[.int .i64 ex, .int .i64 ey, .int .i64 ez] 27)).alloc (.cells #[.int .i64 tx, .int .i64 ty, .int .i64 tz] 27)).alloc (.cells #[.int .i64 N, .int .i64 Q] 36) = w1 at *
  replace HL := Lib.hid (HL.out.below HB.out)
  replace HM := Lib.hid (HM.out.below HB.out)
  go_wp2_with fail
  have v0 : World.cell? (w1.alloc (.cells #[.int .i64 ex, .int .i64 ey, .int .i64 ez, .int .i64 tx, .int .i64 ty, .int .i64 tz] 27)) ⟨w1.heap.size, 0, none⟩ = some (.int .i64 ex) := by simp [go_sem]
  have v1 : World.cell? (w1.alloc (.cells #[.int .i64 ex, .int .i64 ey, .int .i64 ez, .int .i64 tx, .int .i64 ty, .int .i64 tz] 27)) ⟨w1.heap.size, 1, none⟩ = some (.int .i64 ey) := by simp [go_sem]
  have v2 : World.cell? (w1.alloc (.cells #[.int .i64 ex, .int .i64 ey, .int .i64 ez, .int .i64 tx, .int .i64 ty, .int .i64 tz] 27)) ⟨w1.heap.size, 2, none⟩ = some (.int .i64 ez) := by simp [go_sem]
  have v3 : World.cell? (w1.alloc (.cells #[.int .i64 ex, .int .i64 ey, .int .i64 ez, .int .i64 tx, .int .i64 ty, .int .i64 tz] 27)) ⟨w1.heap.size, 3, none⟩ = some (.int .i64 tx) := by simp [go_sem]
  have v4 : World.cell? (w1.alloc (.cells #[.int .i64 ex, .int .i64 ey, .int .i64 ez, .int .i64 tx, .int .i64 ty, .int .i64 tz] 27)) ⟨w1.heap.size, 4, none⟩ = some (.int .i64 ty) := by simp [go_sem]
  have v5 : World.cell? (w1.alloc (.cells #[.int .i64 ex, .int .i64 ey, .int .i64 ez, .int .i64 tx, .int .i64 ty, .int .i64 tz] 27)) ⟨w1.heap.size, 5, none⟩ = some (.int .i64 tz) := by simp [go_sem]
  have lv : w1.heap.size < (w1.alloc (.cells #[.int .i64 ex, .int .i64 ey, .int .i64 ez, .int .i64 tx, .int .i64 ty, .int .i64 tz] 27)).heap.size := by simp
  have hb : Below w1.heap.size w1 (w1.alloc (.cells #[.int .i64 ex, .int .i64 ey, .int .i64 ez, .int .i64 tx, .int .i64 ty, .int .i64 tz] 27)) := below_new _ _
  generalize w1.alloc (.cells #[.int .i64 ex, .int .i64 ey, .int .i64 ez, .int .i64 tx, .int .i64 ty, .int .i64 tz] 27) = w2 at *
  replace HB := Lib.hid (on_below HB.out hb)
  replace HL := Lib.hid (HL.out.below hb)
  replace HM := Lib.hid (HM.out.below hb)
  replace p0 := keepc hb p0
  replace p1 := keepc hb p1
  replace p2 := keepc hb p2
  replace q0 := keepc hb q0
  replace q1 := keepc hb q1
  replace q2 := keepc hb q2
  replace o0 := keepc hb o0
  replace o1 := keepc hb o1
  replace lp := Nat.lt_of_lt_of_le lp hb.size
  replace lq := Nat.lt_of_lt_of_le lq hb.size
  replace lo := Nat.lt_of_lt_of_le lo hb.size
  clear hb
  generalize w1.heap.size = gv at *
  with_reducible refine (CD.out _ _ HL.out (s3_two v0 v1 v2 v3 v4 v5) HM.out).mono ?_
  rintro e_ w3 ⟨rfl, hb⟩
  replace HB := Lib.hid (on_below HB.out hb)
  replace HL := Lib.hid (HL.out.below hb)
  replace HM := Lib.hid (HM.out.below hb)
  replace p0 := keepc hb p0
  replace p1 := keepc hb p1
  replace p2 := keepc hb p2
  replace q0 := keepc hb q0
  replace q1 := keepc hb q1
  replace q2 := keepc hb q2
  replace o0 := keepc hb o0
  replace o1 := keepc hb o1
  replace v0 := keepc hb v0
  replace v1 := keepc hb v1
  replace v2 := keepc hb v2
  replace v3 := keepc hb v3
  replace v4 := keepc hb v4
  replace v5 := keepc hb v5
  replace lp := Nat.lt_of_lt_of_le lp hb.size
  replace lq := Nat.lt_of_lt_of_le lq hb.size
  replace lo := Nat.lt_of_lt_of_le lo hb.size
  replace lv := Nat.lt_of_lt_of_le lv hb.size
  clear hb
  go_wp2_with fail
  have d0 : World.cell? (w3.alloc (.cells #[.int .i64 x, .int .i64 y, .int .i64 z] 27)) ⟨w3.heap.size, 0, none⟩ = some (.int .i64 x) := by simp [go_sem]
  have d1 : World.cell? (w3.alloc (.cells #[.int .i64 x, .int .i64 y, .int .i64 z] 27)) ⟨w3.heap.size, 1, none⟩ = some (.int .i64 y) := by simp [go_sem]
  have d2 : World.cell? (w3.alloc (.cells #[.int .i64 x, .int .i64 y, .int .i64 z] 27)) ⟨w3.heap.size, 2, none⟩ = some (.int .i64 z) := by simp [go_sem]
  have ld : w3.heap.size < (w3.alloc (.cells #[.int .i64 x, .int .i64 y, .int .i64 z] 27)).heap.size := by simp
  have hb : Below w3.heap.size w3 (w3.alloc (.cells #[.int .i64 x, .int .i64 y, .int .i64 z] 27)) := below_new _ _
  generalize w3.alloc (.cells #[.int .i64 x, .int .i64 y, .int .i64 z] 27) = w4 at *
  replace HB := Lib.hid (on_below HB.out hb)
  replace HL := Lib.hid (HL.out.below hb)
  replace HM := Lib.hid (HM.out.below hb)
  replace p0 := keepc hb p0
  replace p1 := keepc hb p1
  replace p2 := keepc hb p2
  replace q0 := keepc hb q0
  replace q1 := keepc hb q1
  replace q2 := keepc hb q2
  replace o0 := keepc hb o0
  replace o1 := keepc hb o1
  replace v0 := keepc hb v0
  replace v1 := keepc hb v1
  replace v2 := keepc hb v2
  replace v3 := keepc hb v3
  replace v4 := keepc hb v4
  replace v5 := keepc hb v5
  replace lp := Nat.lt_of_lt_of_le lp hb.size
  replace lq := Nat.lt_of_lt_of_le lq hb.size
  replace lo := Nat.lt_of_lt_of_le lo hb.size
  replace lv := Nat.lt_of_lt_of_le lv hb.size
  clear hb
  generalize w3.heap.size = gd at *
  with_reducible refine (CI.out _).mono ?_
  rintro e_ w5 ⟨rfl, hb⟩
  replace HB := Lib.hid (on_below HB.out hb)
  replace HL := Lib.hid (HL.out.below hb)
  replace HM := Lib.hid (HM.out.below hb)
  replace p0 := keepc hb p0
  replace p1 := keepc hb p1
  replace p2 := keepc hb p2
  replace q0 := keepc hb q0
  replace q1 := keepc hb q1
  replace q2 := keepc hb q2
  replace o0 := keepc hb o0
  replace o1 := keepc hb o1
  replace v0 := keepc hb v0
  replace v1 := keepc hb v1
  replace v2 := keepc hb v2
  replace v3 := keepc hb v3
  replace v4 := keepc hb v4
  replace v5 := keepc hb v5
  replace d0 := keepc hb d0
  replace d1 := keepc hb d1
  replace d2 := keepc hb d2
  replace lp := Nat.lt_of_lt_of_le lp hb.size
  replace lq := Nat.lt_of_lt_of_le lq hb.size
  replace lo := Nat.lt_of_lt_of_le lo hb.size
  replace lv := Nat.lt_of_lt_of_le lv hb.size
  replace ld := Nat.lt_of_lt_of_le ld hb.size
  clear hb
  go_wp2_with fail
  with_reducible refine (CW.out _).mono ?_
  rintro e_ w6 ⟨rfl, hb⟩
  replace HB := Lib.hid (on_below HB.out hb)
  replace HL := Lib.hid (HL.out.below hb)
  replace HM := Lib.hid (HM.out.below hb)
  replace p0 := keepc hb p0
  replace p1 := keepc hb p1
  replace p2 := keepc hb p2
  replace q0 := keepc hb q0
  replace q1 := keepc hb q1
  replace q2 := keepc hb q2
  replace o0 := keepc hb o0
  replace o1 := keepc hb o1
  replace v0 := keepc hb v0
  replace v1 := keepc hb v1
  replace v2 := keepc hb v2
  replace v3 := keepc hb v3
  replace v4 := keepc hb v4
  replace v5 := keepc hb v5
  replace d0 := keepc hb d0
  replace d1 := keepc hb d1
  replace d2 := keepc hb d2
  replace lp := Nat.lt_of_lt_of_le lp hb.size
  replace lq := Nat.lt_of_lt_of_le lq hb.size
  replace lo := Nat.lt_of_lt_of_le lo hb.size
  replace lv := Nat.lt_of_lt_of_le lv hb.size
  replace ld := Nat.lt_of_lt_of_le ld hb.size
  clear hb
  go_wp2_with fail
  have y0 : World.cell? (w6.alloc (.cells #[.int .i64 ex, .int .i64 ey, .int .i64 ez, .int .i64 ux, .int .i64 uy, .int .i64 uz] 137)) ⟨w6.heap.size, 0, none⟩ = some (.int .i64 ex) := by simp [go_sem]
  have y1 : World.cell? (w6.alloc (.cells #[.int .i64 ex, .int .i64 ey, .int .i64 ez, .int .i64 ux, .int .i64 uy, .int .i64 uz] 137)) ⟨w6.heap.size, 1, none⟩ = some (.int .i64 ey) := by simp [go_sem]
  have y2 : World.cell? (w6.alloc (.cells #[.int .i64 ex, .int .i64 ey, .int .i64 ez, .int .i64 ux, .int .i64 uy, .int .i64 uz] 137)) ⟨w6.heap.size, 2, none⟩ = some (.int .i64 ez) := by simp [go_sem]
  have y3 : World.cell? (w6.alloc (.cells #[.int .i64 ex, .int .i64 ey, .int .i64 ez, .int .i64 ux, .int .i64 uy, .int .i64 uz] 137)) ⟨w6.heap.size, 3, none⟩ = some (.int .i64 ux) := by simp [go_sem]
  have y4 : World.cell? (w6.alloc (.cells #[.int .i64 ex, .int .i64 ey, .int .i64 ez, .int .i64 ux, .int .i64 uy, .int .i64 uz] 137)) ⟨w6.heap.size, 4, none⟩ = some (.int .i64 uy) := by simp [go_sem]
  have y5 : World.cell? (w6.alloc (.cells #[.int .i64 ex, .int .i64 ey, .int .i64 ez, .int .i64 ux, .int .i64 uy, .int .i64 uz] 137)) ⟨w6.heap.size, 5, none⟩ = some (.int .i64 uz) := by simp [go_sem]
  have ly : w6.heap.size < (w6.alloc (.cells #[.int .i64 ex, .int .i64 ey, .int .i64 ez, .int .i64 ux, .int .i64 uy, .int .i64 uz] 137)).heap.size := by simp
  have hb : Below w6.heap.size w6 (w6.alloc (.cells #[.int .i64 ex, .int .i64 ey, .int .i64 ez, .int .i64 ux, .int .i64 uy, .int .i64 uz] 137)) := below_new _ _
  generalize w6.alloc (.cells #[.int .i64 ex, .int .i64 ey, .int .i64 ez, .int .i64 ux, .int .i64 uy, .int .i64 uz] 137) = w7 at *
  replace HB := Lib.hid (on_below HB.out hb)
  replace HL := Lib.hid (HL.out.below hb)
  replace HM := Lib.hid (HM.out.below hb)
  replace p0 := keepc hb p0
  replace p1 := keepc hb p1
  replace p2 := keepc hb p2
  replace q0 := keepc hb q0
  replace q1 := keepc hb q1
  replace q2 := keepc hb q2
  replace o0 := keepc hb o0
  replace o1 := keepc hb o1
  replace v0 := keepc hb v0
  replace v1 := keepc hb v1
  replace v2 := keepc hb v2
  replace v3 := keepc hb v3
  replace v4 := keepc hb v4
  replace v5 := keepc hb v5
  replace d0 := keepc hb d0
  replace d1 := keepc hb d1
  replace d2 := keepc hb d2
  replace lp := Nat.lt_of_lt_of_le lp hb.size
  replace lq := Nat.lt_of_lt_of_le lq hb.size
  replace lo := Nat.lt_of_lt_of_le lo hb.size
  replace lv := Nat.lt_of_lt_of_le lv hb.size
  replace ld := Nat.lt_of_lt_of_le ld hb.size
  clear hb
  generalize w6.heap.size = gy at *
  with_reducible refine (CG.out _).mono ?_
  rintro e_ w8 ⟨rfl, hb⟩
  replace HB := Lib.hid (on_below HB.out hb)
  replace HL := Lib.hid (HL.out.below hb)
  replace HM := Lib.hid (HM.out.below hb)
  replace p0 := keepc hb p0
  replace p1 := keepc hb p1
  replace p2 := keepc hb p2
  replace q0 := keepc hb q0
  replace q1 := keepc hb q1
  replace q2 := keepc hb q2
  replace o0 := keepc hb o0
  replace o1 := keepc hb o1
  replace v0 := keepc hb v0
  replace v1 := keepc hb v1
  replace v2 := keepc hb v2
  replace v3 := keepc hb v3
  replace v4 := keepc hb v4
  replace v5 := keepc hb v5
  replace d0 := keepc hb d0
  replace d1 := keepc hb d1
  replace d2 := keepc hb d2
  replace y0 := keepc hb y0
  replace y1 := keepc hb y1
  replace y2 := keepc hb y2
  replace y3 := keepc hb y3
  replace y4 := keepc hb y4
  replace y5 := keepc hb y5
  replace lp := Nat.lt_of_lt_of_le lp hb.size
  replace lq := Nat.lt_of_lt_of_le lq hb.size
  replace lo := Nat.lt_of_lt_of_le lo hb.size
  replace lv := Nat.lt_of_lt_of_le lv hb.size
  replace ld := Nat.lt_of_lt_of_le ld hb.size
  replace ly := Nat.lt_of_lt_of_le ly hb.size
  clear hb
  go_wp2_with fail
  have s0 : World.cell? (w8.alloc (.cells #[.int .i64 gx, .int .i64 gy_, .int .i64 gz] 27)) ⟨w8.heap.size, 0, none⟩ = some (.int .i64 gx) := by simp [go_sem]
  have s1 : World.cell? (w8.alloc (.cells #[.int .i64 gx, .int .i64 gy_, .int .i64 gz] 27)) ⟨w8.heap.size, 1, none⟩ = some (.int .i64 gy_) := by simp [go_sem]
  have s2 : World.cell? (w8.alloc (.cells #[.int .i64 gx, .int .i64 gy_, .int .i64 gz] 27)) ⟨w8.heap.size, 2, none⟩ = some (.int .i64 gz) := by simp [go_sem]
  have ls : w8.heap.size < (w8.alloc (.cells #[.int .i64 gx, .int .i64 gy_, .int .i64 gz] 27)).heap.size := by simp
  have hb : Below w8.heap.size w8 (w8.alloc (.cells #[.int .i64 gx, .int .i64 gy_, .int .i64 gz] 27)) := below_new _ _
  generalize w8.alloc (.cells #[.int .i64 gx, .int .i64 gy_, .int .i64 gz] 27) = w9 at *
  replace HB := Lib.hid (on_below HB.out hb)
  replace HL := Lib.hid (HL.out.below hb)
  replace HM := Lib.hid (HM.out.below hb)
  replace p0 := keepc hb p0
  replace p1 := keepc hb p1
  replace p2 := keepc hb p2
  replace q0 := keepc hb q0
  replace q1 := keepc hb q1
  replace q2 := keepc hb q2
  replace o0 := keepc hb o0
  replace o1 := keepc hb o1
  replace v0 := keepc hb v0
  replace v1 := keepc hb v1
  replace v2 := keepc hb v2
  replace v3 := keepc hb v3
  replace v4 := keepc hb v4
  replace v5 := keepc hb v5
  replace d0 := keepc hb d0
  replace d1 := keepc hb d1
  replace d2 := keepc hb d2
  replace y0 := keepc hb y0
  replace y1 := keepc hb y1
  replace y2 := keepc hb y2
  replace y3 := keepc hb y3
  replace y4 := keepc hb y4
  replace y5 := keepc hb y5
  replace lp := Nat.lt_of_lt_of_le lp hb.size
  replace lq := Nat.lt_of_lt_of_le lq hb.size
  replace lo := Nat.lt_of_lt_of_le lo hb.size
  replace lv := Nat.lt_of_lt_of_le lv hb.size
  replace ld := Nat.lt_of_lt_of_le ld hb.size
  replace ly := Nat.lt_of_lt_of_le ly hb.size
  clear hb
  generalize w8.heap.size = gs at *
  with_reducible refine (CN.out _).mono ?_
  rintro e_ w10 ⟨rfl, hb⟩
  replace HB := Lib.hid (on_below HB.out hb)
  replace HL := Lib.hid (HL.out.below hb)
  replace HM := Lib.hid (HM.out.below hb)
  replace p0 := keepc hb p0
  replace p1 := keepc hb p1
  replace p2 := keepc hb p2
  replace q0 := keepc hb q0
  replace q1 := keepc hb q1
  replace q2 := keepc hb q2
  replace o0 := keepc hb o0
  replace o1 := keepc hb o1
  replace v0 := keepc hb v0
  replace v1 := keepc hb v1
  replace v2 := keepc hb v2
  replace v3 := keepc hb v3
  replace v4 := keepc hb v4
  replace v5 := keepc hb v5
  replace d0 := keepc hb d0
  replace d1 := keepc hb d1
  replace d2 := keepc hb d2
  replace y0 := keepc hb y0
  replace y1 := keepc hb y1
  replace y2 := keepc hb y2
  replace y3 := keepc hb y3
  replace y4 := keepc hb y4
  replace y5 := keepc hb y5
  replace s0 := keepc hb s0
  replace s1 := keepc hb s1
  replace s2 := keepc hb s2
  replace lp := Nat.lt_of_lt_of_le lp hb.size
  replace lq := Nat.lt_of_lt_of_le lq hb.size
  replace lo := Nat.lt_of_lt_of_le lo hb.size
  replace lv := Nat.lt_of_lt_of_le lv hb.size
  replace ld := Nat.lt_of_lt_of_le ld hb.size
  replace ly := Nat.lt_of_lt_of_le ly hb.size
  replace ls := Nat.lt_of_lt_of_le ls hb.size
  clear hb
  go_wp2_with fail
  go_ret2
  exact ⟨rfl, HB.out⟩
set_option maxRecDepth 100000 in
set_option maxHeartbeats 2000000 in
theorem glr_8 (A : Option Addr) (C : Nat) (T : List Q4) (m ex ey ez tx ty tz N Q : Int) (B : Option Addr) (D : Nat) (L : List Bv) (h4 : T.length ≤ 9223372036854775807) (h5 : L.length ≤ 9223372036854775807) (hs : Bsm L) (x y z : Int) (hd : DfR T m L [⟨ex, ey, ez⟩, ⟨tx, ty, tz⟩] x y z true 0) (iN : I64 N) (iQ : I64 Q) (hq : shr N Q = true) (hne : ¬ (tx = ex ∧ ty = ey ∧ tz = ez)) (he : vv ex ey ez = true) (ht : vv tx ty tz = true) (hx : vv x y z = true) (hn : ¬ (x = 0 ∧ y = 0 ∧ z = 0)) (hb : Bds L) (hv : vv (ex + x) (ey + y) (ez + z) = true) (hg : vv (tx - ex) (ty - ey) (tz - ez) = true) (hw : nr (dt x y z (tx - ex) (ty - ey) (tz - ez)) (dt x y z x y z) (dt (tx - ex) (ty - ey) (tz - ez) (tx - ex) (ty - ey) (tz - ez)) N Q = true) (r : Bool) (hr : r = true ↔ ∃ k, k < L.length ∧ hit ex ey ez (ex + x) (ey + y) (ez + z) (gdB L k) = true) (w : World) (hl : S4 w A T) (hm : BdS w B L) :
    Calls Try.prog 41 #[.slice A T.length C, .int .i64 m, .agg #[.int .i64 ex, .int .i64 ey, .int .i64 ez], .agg #[.int .i64 tx, .int .i64 ty, .int .i64 tz], .agg #[.int .i64 N, .int .i64 Q], .slice B L.length D] w fun e_ w' => e_ = .returned (.tuple #[.bool (!r), .int .i64 0]) ∧ Below w.heap.size w w' := by
  have CD := Lib.hid (fun g W (a : S4 W A T) (b : S3 W (some ⟨g, 0, none⟩) [⟨ex, ey, ez⟩, ⟨tx, ty, tz⟩]) (c : BdS W B L) => df_is A C T m B D L (some ⟨g, 0, none⟩) 2 [⟨ex, ey, ez⟩, ⟨tx, ty, tz⟩] h4 h5 (by simp) (fun _ => hs) x y z true 0 hd W a b c)
  simp only [List.length_cons, List.length_nil, Nat.zero_add, Nat.reduceAdd] at CD
  have CI := Lib.hid (fun W => isshare_is N Q true iN iQ hq W)
  have eV : ∀ W, (binOp .eql 27 (.agg #[.int .i64 tx, .int .i64 ty, .int .i64 tz]) (.agg #[.int .i64 ex, .int .i64 ey, .int .i64 ez])).run Try.prog W = .ok (.bool false) W := fun W => vec_eq (r := false) (decide_eq_false hne) W
  have CW := Lib.hid (fun W => wayfrom_is ex ey ez x y z (ex + x) (ey + y) (ez + z) 0 (by rw [he, hx, hv]; rfl) rfl rfl rfl W)
  have CG := Lib.hid (fun W => sub_is tx ty tz ex ey ez (tx - ex) (ty - ey) (tz - ez) 0 (by rw [ht, he, hg]; rfl) rfl rfl rfl W)
  have CS := Lib.hid (fun W (h : BdS W B L) => shaded_is ex ey ez (ex + x) (ey + y) (ez + z) B D L h5 hs (vv_iff.1 he) (vv_iff.1 hv) (end_ne hn) hb r hr W h)
  have CN := Lib.hid (fun W => near_is x y z (tx - ex) (ty - ey) (tz - ez) N Q 0 true iN iQ (by rw [dr_iff.2 ⟨vv_iff.1 hx, hn⟩, dr_iff.2 ⟨vv_iff.1 hg, fun k => hne ⟨by omega, by omega, by omega⟩⟩, hq]; rfl) (by rw [hw]; rfl) W)
  generalize ex + x = ux at *
  generalize ey + y = uy at *
  generalize ez + z = uz at *
  generalize tx - ex = gx at *
  generalize ty - ey = gy_ at *
  generalize tz - ez = gz at *
  clear hd hs iN iQ hq hne he ht hx hn hb hv hg hw hr
  have HL := Lib.hid hl
  clear hl
  have HM := Lib.hid hm
  clear hm
  have p0 : World.cell? (((w.alloc (.cells #[.int .i64 ex, .int .i64 ey, .int .i64 ez] 27)).alloc (.cells #[.int .i64 tx, .int .i64 ty, .int .i64 tz] 27)).alloc (.cells #[.int .i64 N, .int .i64 Q] 36)) ⟨w.heap.size, 0, none⟩ = some (.int .i64 ex) := by simp [go_sem]
  have p1 : World.cell? (((w.alloc (.cells #[.int .i64 ex, .int .i64 ey, .int .i64 ez] 27)).alloc (.cells #[.int .i64 tx, .int .i64 ty, .int .i64 tz] 27)).alloc (.cells #[.int .i64 N, .int .i64 Q] 36)) ⟨w.heap.size, 1, none⟩ = some (.int .i64 ey) := by simp [go_sem]
  have p2 : World.cell? (((w.alloc (.cells #[.int .i64 ex, .int .i64 ey, .int .i64 ez] 27)).alloc (.cells #[.int .i64 tx, .int .i64 ty, .int .i64 tz] 27)).alloc (.cells #[.int .i64 N, .int .i64 Q] 36)) ⟨w.heap.size, 2, none⟩ = some (.int .i64 ez) := by simp [go_sem]
  have lp : w.heap.size < (((w.alloc (.cells #[.int .i64 ex, .int .i64 ey, .int .i64 ez] 27)).alloc (.cells #[.int .i64 tx, .int .i64 ty, .int .i64 tz] 27)).alloc (.cells #[.int .i64 N, .int .i64 Q] 36)).heap.size := by simp <;> omega
  have q0 : World.cell? (((w.alloc (.cells #[.int .i64 ex, .int .i64 ey, .int .i64 ez] 27)).alloc (.cells #[.int .i64 tx, .int .i64 ty, .int .i64 tz] 27)).alloc (.cells #[.int .i64 N, .int .i64 Q] 36)) ⟨w.heap.size + 1, 0, none⟩ = some (.int .i64 tx) := by simp [go_sem]
  have q1 : World.cell? (((w.alloc (.cells #[.int .i64 ex, .int .i64 ey, .int .i64 ez] 27)).alloc (.cells #[.int .i64 tx, .int .i64 ty, .int .i64 tz] 27)).alloc (.cells #[.int .i64 N, .int .i64 Q] 36)) ⟨w.heap.size + 1, 1, none⟩ = some (.int .i64 ty) := by simp [go_sem]
  have q2 : World.cell? (((w.alloc (.cells #[.int .i64 ex, .int .i64 ey, .int .i64 ez] 27)).alloc (.cells #[.int .i64 tx, .int .i64 ty, .int .i64 tz] 27)).alloc (.cells #[.int .i64 N, .int .i64 Q] 36)) ⟨w.heap.size + 1, 2, none⟩ = some (.int .i64 tz) := by simp [go_sem]
  have lq : w.heap.size + 1 < (((w.alloc (.cells #[.int .i64 ex, .int .i64 ey, .int .i64 ez] 27)).alloc (.cells #[.int .i64 tx, .int .i64 ty, .int .i64 tz] 27)).alloc (.cells #[.int .i64 N, .int .i64 Q] 36)).heap.size := by simp <;> omega
  have o0 : World.cell? (((w.alloc (.cells #[.int .i64 ex, .int .i64 ey, .int .i64 ez] 27)).alloc (.cells #[.int .i64 tx, .int .i64 ty, .int .i64 tz] 27)).alloc (.cells #[.int .i64 N, .int .i64 Q] 36)) ⟨w.heap.size + 1 + 1, 0, none⟩ = some (.int .i64 N) := by simp [go_sem]
  have o1 : World.cell? (((w.alloc (.cells #[.int .i64 ex, .int .i64 ey, .int .i64 ez] 27)).alloc (.cells #[.int .i64 tx, .int .i64 ty, .int .i64 tz] 27)).alloc (.cells #[.int .i64 N, .int .i64 Q] 36)) ⟨w.heap.size + 1 + 1, 1, none⟩ = some (.int .i64 Q) := by simp [go_sem]
  have lo : w.heap.size + 1 + 1 < (((w.alloc (.cells #[.int .i64 ex, .int .i64 ey, .int .i64 ez] 27)).alloc (.cells #[.int .i64 tx, .int .i64 ty, .int .i64 tz] 27)).alloc (.cells #[.int .i64 N, .int .i64 Q] 36)).heap.size := by simp <;> omega
  have HB := Lib.hid (show Below w.heap.size w (((w.alloc (.cells #[.int .i64 ex, .int .i64 ey, .int .i64 ez] 27)).alloc (.cells #[.int .i64 tx, .int .i64 ty, .int .i64 tz] 27)).alloc (.cells #[.int .i64 N, .int .i64 Q] 36)) from ((((Below.refl _ _).alloc (by simp <;> omega) _).alloc (by simp <;> omega) _).alloc (by simp <;> omega) _))
  go_enter Try.func41, Try.ntmps41
  go_upto_region 1 with fail
  generalize ((w.alloc (.cells #[.int .i64 ex, .int .i64 ey, .int .i64 ez] 27)).alloc (.cells #[.int .i64 tx, .int .i64 ty, .int .i64 tz] 27)).alloc (.cells #[.int .i64 N, .int .i64 Q] 36) = w1 at *
  replace HL := Lib.hid (HL.out.below HB.out)
  replace HM := Lib.hid (HM.out.below HB.out)
  go_wp2_with fail
  have v0 : World.cell? (w1.alloc (.cells #[.int .i64 ex, .int .i64 ey, .int .i64 ez, .int .i64 tx, .int .i64 ty, .int .i64 tz] 27)) ⟨w1.heap.size, 0, none⟩ = some (.int .i64 ex) := by simp [go_sem]
  have v1 : World.cell? (w1.alloc (.cells #[.int .i64 ex, .int .i64 ey, .int .i64 ez, .int .i64 tx, .int .i64 ty, .int .i64 tz] 27)) ⟨w1.heap.size, 1, none⟩ = some (.int .i64 ey) := by simp [go_sem]
  have v2 : World.cell? (w1.alloc (.cells #[.int .i64 ex, .int .i64 ey, .int .i64 ez, .int .i64 tx, .int .i64 ty, .int .i64 tz] 27)) ⟨w1.heap.size, 2, none⟩ = some (.int .i64 ez) := by simp [go_sem]
  have v3 : World.cell? (w1.alloc (.cells #[.int .i64 ex, .int .i64 ey, .int .i64 ez, .int .i64 tx, .int .i64 ty, .int .i64 tz] 27)) ⟨w1.heap.size, 3, none⟩ = some (.int .i64 tx) := by simp [go_sem]
  have v4 : World.cell? (w1.alloc (.cells #[.int .i64 ex, .int .i64 ey, .int .i64 ez, .int .i64 tx, .int .i64 ty, .int .i64 tz] 27)) ⟨w1.heap.size, 4, none⟩ = some (.int .i64 ty) := by simp [go_sem]
  have v5 : World.cell? (w1.alloc (.cells #[.int .i64 ex, .int .i64 ey, .int .i64 ez, .int .i64 tx, .int .i64 ty, .int .i64 tz] 27)) ⟨w1.heap.size, 5, none⟩ = some (.int .i64 tz) := by simp [go_sem]
  have lv : w1.heap.size < (w1.alloc (.cells #[.int .i64 ex, .int .i64 ey, .int .i64 ez, .int .i64 tx, .int .i64 ty, .int .i64 tz] 27)).heap.size := by simp
  have hb : Below w1.heap.size w1 (w1.alloc (.cells #[.int .i64 ex, .int .i64 ey, .int .i64 ez, .int .i64 tx, .int .i64 ty, .int .i64 tz] 27)) := below_new _ _
  generalize w1.alloc (.cells #[.int .i64 ex, .int .i64 ey, .int .i64 ez, .int .i64 tx, .int .i64 ty, .int .i64 tz] 27) = w2 at *
  replace HB := Lib.hid (on_below HB.out hb)
  replace HL := Lib.hid (HL.out.below hb)
  replace HM := Lib.hid (HM.out.below hb)
  replace p0 := keepc hb p0
  replace p1 := keepc hb p1
  replace p2 := keepc hb p2
  replace q0 := keepc hb q0
  replace q1 := keepc hb q1
  replace q2 := keepc hb q2
  replace o0 := keepc hb o0
  replace o1 := keepc hb o1
  replace lp := Nat.lt_of_lt_of_le lp hb.size
  replace lq := Nat.lt_of_lt_of_le lq hb.size
  replace lo := Nat.lt_of_lt_of_le lo hb.size
  clear hb
  generalize w1.heap.size = gv at *
  with_reducible refine (CD.out _ _ HL.out (s3_two v0 v1 v2 v3 v4 v5) HM.out).mono ?_
  rintro e_ w3 ⟨rfl, hb⟩
  replace HB := Lib.hid (on_below HB.out hb)
  replace HL := Lib.hid (HL.out.below hb)
  replace HM := Lib.hid (HM.out.below hb)
  replace p0 := keepc hb p0
  replace p1 := keepc hb p1
  replace p2 := keepc hb p2
  replace q0 := keepc hb q0
  replace q1 := keepc hb q1
  replace q2 := keepc hb q2
  replace o0 := keepc hb o0
  replace o1 := keepc hb o1
  replace v0 := keepc hb v0
  replace v1 := keepc hb v1
  replace v2 := keepc hb v2
  replace v3 := keepc hb v3
  replace v4 := keepc hb v4
  replace v5 := keepc hb v5
  replace lp := Nat.lt_of_lt_of_le lp hb.size
  replace lq := Nat.lt_of_lt_of_le lq hb.size
  replace lo := Nat.lt_of_lt_of_le lo hb.size
  replace lv := Nat.lt_of_lt_of_le lv hb.size
  clear hb
  go_wp2_with fail
  have d0 : World.cell? (w3.alloc (.cells #[.int .i64 x, .int .i64 y, .int .i64 z] 27)) ⟨w3.heap.size, 0, none⟩ = some (.int .i64 x) := by simp [go_sem]
  have d1 : World.cell? (w3.alloc (.cells #[.int .i64 x, .int .i64 y, .int .i64 z] 27)) ⟨w3.heap.size, 1, none⟩ = some (.int .i64 y) := by simp [go_sem]
  have d2 : World.cell? (w3.alloc (.cells #[.int .i64 x, .int .i64 y, .int .i64 z] 27)) ⟨w3.heap.size, 2, none⟩ = some (.int .i64 z) := by simp [go_sem]
  have ld : w3.heap.size < (w3.alloc (.cells #[.int .i64 x, .int .i64 y, .int .i64 z] 27)).heap.size := by simp
  have hb : Below w3.heap.size w3 (w3.alloc (.cells #[.int .i64 x, .int .i64 y, .int .i64 z] 27)) := below_new _ _
  generalize w3.alloc (.cells #[.int .i64 x, .int .i64 y, .int .i64 z] 27) = w4 at *
  replace HB := Lib.hid (on_below HB.out hb)
  replace HL := Lib.hid (HL.out.below hb)
  replace HM := Lib.hid (HM.out.below hb)
  replace p0 := keepc hb p0
  replace p1 := keepc hb p1
  replace p2 := keepc hb p2
  replace q0 := keepc hb q0
  replace q1 := keepc hb q1
  replace q2 := keepc hb q2
  replace o0 := keepc hb o0
  replace o1 := keepc hb o1
  replace v0 := keepc hb v0
  replace v1 := keepc hb v1
  replace v2 := keepc hb v2
  replace v3 := keepc hb v3
  replace v4 := keepc hb v4
  replace v5 := keepc hb v5
  replace lp := Nat.lt_of_lt_of_le lp hb.size
  replace lq := Nat.lt_of_lt_of_le lq hb.size
  replace lo := Nat.lt_of_lt_of_le lo hb.size
  replace lv := Nat.lt_of_lt_of_le lv hb.size
  clear hb
  generalize w3.heap.size = gd at *
  with_reducible refine (CI.out _).mono ?_
  rintro e_ w5 ⟨rfl, hb⟩
  replace HB := Lib.hid (on_below HB.out hb)
  replace HL := Lib.hid (HL.out.below hb)
  replace HM := Lib.hid (HM.out.below hb)
  replace p0 := keepc hb p0
  replace p1 := keepc hb p1
  replace p2 := keepc hb p2
  replace q0 := keepc hb q0
  replace q1 := keepc hb q1
  replace q2 := keepc hb q2
  replace o0 := keepc hb o0
  replace o1 := keepc hb o1
  replace v0 := keepc hb v0
  replace v1 := keepc hb v1
  replace v2 := keepc hb v2
  replace v3 := keepc hb v3
  replace v4 := keepc hb v4
  replace v5 := keepc hb v5
  replace d0 := keepc hb d0
  replace d1 := keepc hb d1
  replace d2 := keepc hb d2
  replace lp := Nat.lt_of_lt_of_le lp hb.size
  replace lq := Nat.lt_of_lt_of_le lq hb.size
  replace lo := Nat.lt_of_lt_of_le lo hb.size
  replace lv := Nat.lt_of_lt_of_le lv hb.size
  replace ld := Nat.lt_of_lt_of_le ld hb.size
  clear hb
  go_wp2_with fail
  with_reducible refine (CW.out _).mono ?_
  rintro e_ w6 ⟨rfl, hb⟩
  replace HB := Lib.hid (on_below HB.out hb)
  replace HL := Lib.hid (HL.out.below hb)
  replace HM := Lib.hid (HM.out.below hb)
  replace p0 := keepc hb p0
  replace p1 := keepc hb p1
  replace p2 := keepc hb p2
  replace q0 := keepc hb q0
  replace q1 := keepc hb q1
  replace q2 := keepc hb q2
  replace o0 := keepc hb o0
  replace o1 := keepc hb o1
  replace v0 := keepc hb v0
  replace v1 := keepc hb v1
  replace v2 := keepc hb v2
  replace v3 := keepc hb v3
  replace v4 := keepc hb v4
  replace v5 := keepc hb v5
  replace d0 := keepc hb d0
  replace d1 := keepc hb d1
  replace d2 := keepc hb d2
  replace lp := Nat.lt_of_lt_of_le lp hb.size
  replace lq := Nat.lt_of_lt_of_le lq hb.size
  replace lo := Nat.lt_of_lt_of_le lo hb.size
  replace lv := Nat.lt_of_lt_of_le lv hb.size
  replace ld := Nat.lt_of_lt_of_le ld hb.size
  clear hb
  go_wp2_with fail
  have y0 : World.cell? (w6.alloc (.cells #[.int .i64 ex, .int .i64 ey, .int .i64 ez, .int .i64 ux, .int .i64 uy, .int .i64 uz] 137)) ⟨w6.heap.size, 0, none⟩ = some (.int .i64 ex) := by simp [go_sem]
  have y1 : World.cell? (w6.alloc (.cells #[.int .i64 ex, .int .i64 ey, .int .i64 ez, .int .i64 ux, .int .i64 uy, .int .i64 uz] 137)) ⟨w6.heap.size, 1, none⟩ = some (.int .i64 ey) := by simp [go_sem]
  have y2 : World.cell? (w6.alloc (.cells #[.int .i64 ex, .int .i64 ey, .int .i64 ez, .int .i64 ux, .int .i64 uy, .int .i64 uz] 137)) ⟨w6.heap.size, 2, none⟩ = some (.int .i64 ez) := by simp [go_sem]
  have y3 : World.cell? (w6.alloc (.cells #[.int .i64 ex, .int .i64 ey, .int .i64 ez, .int .i64 ux, .int .i64 uy, .int .i64 uz] 137)) ⟨w6.heap.size, 3, none⟩ = some (.int .i64 ux) := by simp [go_sem]
  have y4 : World.cell? (w6.alloc (.cells #[.int .i64 ex, .int .i64 ey, .int .i64 ez, .int .i64 ux, .int .i64 uy, .int .i64 uz] 137)) ⟨w6.heap.size, 4, none⟩ = some (.int .i64 uy) := by simp [go_sem]
  have y5 : World.cell? (w6.alloc (.cells #[.int .i64 ex, .int .i64 ey, .int .i64 ez, .int .i64 ux, .int .i64 uy, .int .i64 uz] 137)) ⟨w6.heap.size, 5, none⟩ = some (.int .i64 uz) := by simp [go_sem]
  have ly : w6.heap.size < (w6.alloc (.cells #[.int .i64 ex, .int .i64 ey, .int .i64 ez, .int .i64 ux, .int .i64 uy, .int .i64 uz] 137)).heap.size := by simp
  have hb : Below w6.heap.size w6 (w6.alloc (.cells #[.int .i64 ex, .int .i64 ey, .int .i64 ez, .int .i64 ux, .int .i64 uy, .int .i64 uz] 137)) := below_new _ _
  generalize w6.alloc (.cells #[.int .i64 ex, .int .i64 ey, .int .i64 ez, .int .i64 ux, .int .i64 uy, .int .i64 uz] 137) = w7 at *
  replace HB := Lib.hid (on_below HB.out hb)
  replace HL := Lib.hid (HL.out.below hb)
  replace HM := Lib.hid (HM.out.below hb)
  replace p0 := keepc hb p0
  replace p1 := keepc hb p1
  replace p2 := keepc hb p2
  replace q0 := keepc hb q0
  replace q1 := keepc hb q1
  replace q2 := keepc hb q2
  replace o0 := keepc hb o0
  replace o1 := keepc hb o1
  replace v0 := keepc hb v0
  replace v1 := keepc hb v1
  replace v2 := keepc hb v2
  replace v3 := keepc hb v3
  replace v4 := keepc hb v4
  replace v5 := keepc hb v5
  replace d0 := keepc hb d0
  replace d1 := keepc hb d1
  replace d2 := keepc hb d2
  replace lp := Nat.lt_of_lt_of_le lp hb.size
  replace lq := Nat.lt_of_lt_of_le lq hb.size
  replace lo := Nat.lt_of_lt_of_le lo hb.size
  replace lv := Nat.lt_of_lt_of_le lv hb.size
  replace ld := Nat.lt_of_lt_of_le ld hb.size
  clear hb
  generalize w6.heap.size = gy at *
  with_reducible refine (CG.out _).mono ?_
  rintro e_ w8 ⟨rfl, hb⟩
  replace HB := Lib.hid (on_below HB.out hb)
  replace HL := Lib.hid (HL.out.below hb)
  replace HM := Lib.hid (HM.out.below hb)
  replace p0 := keepc hb p0
  replace p1 := keepc hb p1
  replace p2 := keepc hb p2
  replace q0 := keepc hb q0
  replace q1 := keepc hb q1
  replace q2 := keepc hb q2
  replace o0 := keepc hb o0
  replace o1 := keepc hb o1
  replace v0 := keepc hb v0
  replace v1 := keepc hb v1
  replace v2 := keepc hb v2
  replace v3 := keepc hb v3
  replace v4 := keepc hb v4
  replace v5 := keepc hb v5
  replace d0 := keepc hb d0
  replace d1 := keepc hb d1
  replace d2 := keepc hb d2
  replace y0 := keepc hb y0
  replace y1 := keepc hb y1
  replace y2 := keepc hb y2
  replace y3 := keepc hb y3
  replace y4 := keepc hb y4
  replace y5 := keepc hb y5
  replace lp := Nat.lt_of_lt_of_le lp hb.size
  replace lq := Nat.lt_of_lt_of_le lq hb.size
  replace lo := Nat.lt_of_lt_of_le lo hb.size
  replace lv := Nat.lt_of_lt_of_le lv hb.size
  replace ld := Nat.lt_of_lt_of_le ld hb.size
  replace ly := Nat.lt_of_lt_of_le ly hb.size
  clear hb
  go_wp2_with fail
  have s0 : World.cell? (w8.alloc (.cells #[.int .i64 gx, .int .i64 gy_, .int .i64 gz] 27)) ⟨w8.heap.size, 0, none⟩ = some (.int .i64 gx) := by simp [go_sem]
  have s1 : World.cell? (w8.alloc (.cells #[.int .i64 gx, .int .i64 gy_, .int .i64 gz] 27)) ⟨w8.heap.size, 1, none⟩ = some (.int .i64 gy_) := by simp [go_sem]
  have s2 : World.cell? (w8.alloc (.cells #[.int .i64 gx, .int .i64 gy_, .int .i64 gz] 27)) ⟨w8.heap.size, 2, none⟩ = some (.int .i64 gz) := by simp [go_sem]
  have ls : w8.heap.size < (w8.alloc (.cells #[.int .i64 gx, .int .i64 gy_, .int .i64 gz] 27)).heap.size := by simp
  have hb : Below w8.heap.size w8 (w8.alloc (.cells #[.int .i64 gx, .int .i64 gy_, .int .i64 gz] 27)) := below_new _ _
  generalize w8.alloc (.cells #[.int .i64 gx, .int .i64 gy_, .int .i64 gz] 27) = w9 at *
  replace HB := Lib.hid (on_below HB.out hb)
  replace HL := Lib.hid (HL.out.below hb)
  replace HM := Lib.hid (HM.out.below hb)
  replace p0 := keepc hb p0
  replace p1 := keepc hb p1
  replace p2 := keepc hb p2
  replace q0 := keepc hb q0
  replace q1 := keepc hb q1
  replace q2 := keepc hb q2
  replace o0 := keepc hb o0
  replace o1 := keepc hb o1
  replace v0 := keepc hb v0
  replace v1 := keepc hb v1
  replace v2 := keepc hb v2
  replace v3 := keepc hb v3
  replace v4 := keepc hb v4
  replace v5 := keepc hb v5
  replace d0 := keepc hb d0
  replace d1 := keepc hb d1
  replace d2 := keepc hb d2
  replace y0 := keepc hb y0
  replace y1 := keepc hb y1
  replace y2 := keepc hb y2
  replace y3 := keepc hb y3
  replace y4 := keepc hb y4
  replace y5 := keepc hb y5
  replace lp := Nat.lt_of_lt_of_le lp hb.size
  replace lq := Nat.lt_of_lt_of_le lq hb.size
  replace lo := Nat.lt_of_lt_of_le lo hb.size
  replace lv := Nat.lt_of_lt_of_le lv hb.size
  replace ld := Nat.lt_of_lt_of_le ld hb.size
  replace ly := Nat.lt_of_lt_of_le ly hb.size
  clear hb
  generalize w8.heap.size = gs at *
  with_reducible refine (CN.out _).mono ?_
  rintro e_ w10 ⟨rfl, hb⟩
  replace HB := Lib.hid (on_below HB.out hb)
  replace HL := Lib.hid (HL.out.below hb)
  replace HM := Lib.hid (HM.out.below hb)
  replace p0 := keepc hb p0
  replace p1 := keepc hb p1
  replace p2 := keepc hb p2
  replace q0 := keepc hb q0
  replace q1 := keepc hb q1
  replace q2 := keepc hb q2
  replace o0 := keepc hb o0
  replace o1 := keepc hb o1
  replace v0 := keepc hb v0
  replace v1 := keepc hb v1
  replace v2 := keepc hb v2
  replace v3 := keepc hb v3
  replace v4 := keepc hb v4
  replace v5 := keepc hb v5
  replace d0 := keepc hb d0
  replace d1 := keepc hb d1
  replace d2 := keepc hb d2
  replace y0 := keepc hb y0
  replace y1 := keepc hb y1
  replace y2 := keepc hb y2
  replace y3 := keepc hb y3
  replace y4 := keepc hb y4
  replace y5 := keepc hb y5
  replace s0 := keepc hb s0
  replace s1 := keepc hb s1
  replace s2 := keepc hb s2
  replace lp := Nat.lt_of_lt_of_le lp hb.size
  replace lq := Nat.lt_of_lt_of_le lq hb.size
  replace lo := Nat.lt_of_lt_of_le lo hb.size
  replace lv := Nat.lt_of_lt_of_le lv hb.size
  replace ld := Nat.lt_of_lt_of_le ld hb.size
  replace ly := Nat.lt_of_lt_of_le ly hb.size
  replace ls := Nat.lt_of_lt_of_le ls hb.size
  clear hb
  go_wp2_with fail
  with_reducible refine (CS.out _ HM.out).mono ?_
  rintro e_ w11 ⟨rfl, hb⟩
  replace HB := Lib.hid (on_below HB.out hb)
  replace HL := Lib.hid (HL.out.below hb)
  replace HM := Lib.hid (HM.out.below hb)
  replace p0 := keepc hb p0
  replace p1 := keepc hb p1
  replace p2 := keepc hb p2
  replace q0 := keepc hb q0
  replace q1 := keepc hb q1
  replace q2 := keepc hb q2
  replace o0 := keepc hb o0
  replace o1 := keepc hb o1
  replace v0 := keepc hb v0
  replace v1 := keepc hb v1
  replace v2 := keepc hb v2
  replace v3 := keepc hb v3
  replace v4 := keepc hb v4
  replace v5 := keepc hb v5
  replace d0 := keepc hb d0
  replace d1 := keepc hb d1
  replace d2 := keepc hb d2
  replace y0 := keepc hb y0
  replace y1 := keepc hb y1
  replace y2 := keepc hb y2
  replace y3 := keepc hb y3
  replace y4 := keepc hb y4
  replace y5 := keepc hb y5
  replace s0 := keepc hb s0
  replace s1 := keepc hb s1
  replace s2 := keepc hb s2
  replace lp := Nat.lt_of_lt_of_le lp hb.size
  replace lq := Nat.lt_of_lt_of_le lq hb.size
  replace lo := Nat.lt_of_lt_of_le lo hb.size
  replace lv := Nat.lt_of_lt_of_le lv hb.size
  replace ld := Nat.lt_of_lt_of_le ld hb.size
  replace ly := Nat.lt_of_lt_of_le ly hb.size
  replace ls := Nat.lt_of_lt_of_le ls hb.size
  clear hb
  go_wp2_with fail
  go_ret2
  exact ⟨rfl, HB.out⟩
theorem glr_is (A : Option Addr) (C : Nat) (T : List Q4) (m ex ey ez tx ty tz N Q : Int) (B : Option Addr) (D : Nat) (L : List Bv) (h4 : T.length ≤ 9223372036854775807) (h5 : L.length ≤ 9223372036854775807) (hs : L.length ≤ 60 → Bsm L) (iN : I64 N) (iQ : I64 Q) (r : Bool) (E : Int) (h : GlrR T m ex ey ez tx ty tz N Q L r E) (w : World) (hl : S4 w A T) (hm : BdS w B L) :
    Calls Try.prog 41 #[.slice A T.length C, .int .i64 m, .agg #[.int .i64 ex, .int .i64 ey, .int .i64 ez], .agg #[.int .i64 tx, .int .i64 ty, .int .i64 tz], .agg #[.int .i64 N, .int .i64 Q], .slice B L.length D] w fun e_ w' => e_ = .returned (.tuple #[.bool r, .int .i64 E]) ∧ Below w.heap.size w w' := by
  rcases h with ⟨h, rfl, rfl⟩ | ⟨h, hn, rfl, rfl⟩ | ⟨h, hk, x, y, z, hd, ⟨h1, rfl, rfl⟩ | ⟨h1, h2, rfl, rfl⟩ | ⟨h1, h2, h3, rfl⟩⟩
  · exact glr_0 A C T m ex ey ez tx ty tz N Q B D L h4 h5 0 0 0 (Or.inl ⟨h, rfl, rfl, rfl, rfl, rfl⟩) w hl hm
  · by_cases k : Mok T m ∧ V3 ex ey ez ∧ V3 tx ty tz ∧ Bds L
    · obtain ⟨x, y, z, hd⟩ := dir_ex k.1.1.n1 m
      have hq : shr N Q = false := not_true fun e => hn ⟨k.1, k.2.1, k.2.2.1, e, k.2.2.2⟩
      exact glr_2 A C T m ex ey ez tx ty tz N Q B D L h4 h5 (hs h) x y z _ (df_ok2 h k.1 k.2.1 k.2.2.1 k.2.2.2 hd) iN iQ hq w hl hm
    · exact glr_1 A C T m ex ey ez tx ty tz N Q B D L h4 h5 (hs h) 0 0 0 (df_of2 h k) w hl hm
  all_goals obtain ⟨k1, k2, k3, k4, k5⟩ := hk
  all_goals have hd2 := df_ok2 h k1 k2 k3 k5 hd
  all_goals have hv := dir_v3 k1.1 hd
  · by_cases hz : 0 < z
    · rw [decide_eq_true hz] at hd2
      exact glr_4 A C T m ex ey ez tx ty tz N Q B D L h4 h5 (hs h) x y z hd2 iN iQ k4 (h1.resolve_left (by omega)) w hl hm
    · rw [decide_eq_false hz] at hd2
      exact glr_3 A C T m ex ey ez tx ty tz N Q B D L h4 h5 (hs h) x y z hd2 iN iQ k4 w hl hm
  · rw [decide_eq_true h1.1] at hd2
    cases hv2 : vv (ex + x) (ey + y) (ez + z)
    · exact glr_5 A C T m ex ey ez tx ty tz N Q B D L h4 h5 (hs h) x y z hd2 iN iQ k4 h1.2 (vv_iff.2 k2) (vv_iff.2 k3) (vv_iff.2 hv.1) hv.2 k5 hv2 w hl hm
    · exact glr_6 A C T m ex ey ez tx ty tz N Q B D L h4 h5 (hs h) x y z hd2 iN iQ k4 h1.2 (vv_iff.2 k2) (vv_iff.2 k3) (vv_iff.2 hv.1) hv.2 k5 hv2 (not_true fun e => h2 ⟨hv2, e⟩) w hl hm
  · rw [decide_eq_true h1.1] at hd2
    cases hw : nr (dt x y z (tx - ex) (ty - ey) (tz - ez)) (dt x y z x y z) (dt (tx - ex) (ty - ey) (tz - ez) (tx - ex) (ty - ey) (tz - ez)) N Q
    · rw [hw] at h3
      obtain rfl : false = r := false_of fun e => by have := (h3.1 e).1; cases this
      exact glr_7 A C T m ex ey ez tx ty tz N Q B D L h4 h5 (hs h) x y z hd2 iN iQ k4 h1.2 (vv_iff.2 k2) (vv_iff.2 k3) (vv_iff.2 hv.1) hv.2 k5 h2.1 h2.2 hw w hl hm
    · have hq : (!r) = true ↔ ∃ k, k < L.length ∧ hit ex ey ez (ex + x) (ey + y) (ez + z) (gdB L k) = true := by
        rw [hw] at h3
        cases r
        · simp only [Bool.not_false, true_iff]
          apply Classical.byContradiction
          intro hb
          have := h3.2 ⟨rfl, hb⟩
          cases this
        · simp only [Bool.not_true, Bool.false_eq_true, false_iff]
          exact (h3.1 rfl).2
      have := glr_8 A C T m ex ey ez tx ty tz N Q B D L h4 h5 (hs h) x y z hd2 iN iQ k4 h1.2 (vv_iff.2 k2) (vv_iff.2 k3) (vv_iff.2 hv.1) hv.2 k5 h2.1 h2.2 hw (!r) hq w hl hm
      rwa [Bool.not_not] at this
end Go.Proofs.Ytgjcmolocoijiaa
