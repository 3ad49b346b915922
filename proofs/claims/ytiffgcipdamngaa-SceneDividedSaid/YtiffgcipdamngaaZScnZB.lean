/-
  Package scene: a scene by itself; too many bodies; an eye at a target. Package scene: Valid, errorOf, joined, shares.
-/
import Derived.Test.YtiffgcipdamngaaZScnZA
import Derived.Test.YtiffgcipdamngaaZSgtZE
import Derived.Test.YtiffgcipdamngaaZShpPC
namespace Go.Proofs.Ytiffgcipdamngaa
open Go.RowKit Go.Sort
open Go.RowKit (Below)
set_option linter.unusedVariables false
set_option linter.unusedSimpArgs false
attribute [local go_sem] Oper.semAt_some

theorem vz_enter (args : Array Value) (W : World) : (callFunc 22 args).run Try.prog W = .ok (.enter 22 args) W := by simp [go_sem]
set_option maxRecDepth 100000 in
set_option maxHeartbeats 2000000 in
theorem vz_0 (m : Int) (BA : Option Addr) (BC : Nat) (bs : List Bv) (TA : Option Addr) (TC : Nat) (ts : List Q4) (hb0 : bs.length ≤ 1000) (ht0 : ts.length ≤ 1000) (h : m < 1) (w : World) :
    Calls Try.prog 22 #[.agg #[.int .i64 m, .slice BA bs.length BC, .slice TA ts.length TC]] w fun e_ w' => e_ = .returned (.bool true) ∧ Below w.heap.size w w' := by
  have p0 : World.cell? (w.alloc (.cells #[.int .i64 m, .slice BA bs.length BC, .slice TA ts.length TC] 38)) ⟨w.heap.size, 0, none⟩ = some (.int .i64 m) := by simp [go_sem]
  have p1 : World.cell? (w.alloc (.cells #[.int .i64 m, .slice BA bs.length BC, .slice TA ts.length TC] 38)) ⟨w.heap.size, 1, none⟩ = some (.slice BA bs.length BC) := by simp [go_sem]
  have p2 : World.cell? (w.alloc (.cells #[.int .i64 m, .slice BA bs.length BC, .slice TA ts.length TC] 38)) ⟨w.heap.size, 2, none⟩ = some (.slice TA ts.length TC) := by simp [go_sem]
  have lp : w.heap.size < (w.alloc (.cells #[.int .i64 m, .slice BA bs.length BC, .slice TA ts.length TC] 38)).heap.size := by simp <;> omega
  have HB := Lib.hid (show Below w.heap.size w (w.alloc (.cells #[.int .i64 m, .slice BA bs.length BC, .slice TA ts.length TC] 38)) from ((Below.refl _ _).alloc (by simp <;> omega) _))
  go_enter Try.func22, Try.ntmps22
  go_upto_region 1 with fail
  generalize w.alloc (.cells #[.int .i64 m, .slice BA bs.length BC, .slice TA ts.length TC] 38) = w1 at *
  go_wp2_with fail
  go_ret
  exact ⟨rfl, HB.out⟩
set_option maxRecDepth 100000 in
set_option maxHeartbeats 2000000 in
theorem vz_1 (m : Int) (BA : Option Addr) (BC : Nat) (bs : List Bv) (TA : Option Addr) (TC : Nat) (ts : List Q4) (hb0 : bs.length ≤ 1000) (ht0 : ts.length ≤ 1000) (h0 : 1 ≤ m) (h : 600 < m) (w : World) :
    Calls Try.prog 22 #[.agg #[.int .i64 m, .slice BA bs.length BC, .slice TA ts.length TC]] w fun e_ w' => e_ = .returned (.bool true) ∧ Below w.heap.size w w' := by
  have p0 : World.cell? (w.alloc (.cells #[.int .i64 m, .slice BA bs.length BC, .slice TA ts.length TC] 38)) ⟨w.heap.size, 0, none⟩ = some (.int .i64 m) := by simp [go_sem]
  have p1 : World.cell? (w.alloc (.cells #[.int .i64 m, .slice BA bs.length BC, .slice TA ts.length TC] 38)) ⟨w.heap.size, 1, none⟩ = some (.slice BA bs.length BC) := by simp [go_sem]
  have p2 : World.cell? (w.alloc (.cells #[.int .i64 m, .slice BA bs.length BC, .slice TA ts.length TC] 38)) ⟨w.heap.size, 2, none⟩ = some (.slice TA ts.length TC) := by simp [go_sem]
  have lp : w.heap.size < (w.alloc (.cells #[.int .i64 m, .slice BA bs.length BC, .slice TA ts.length TC] 38)).heap.size := by simp <;> omega
  have HB := Lib.hid (show Below w.heap.size w (w.alloc (.cells #[.int .i64 m, .slice BA bs.length BC, .slice TA ts.length TC] 38)) from ((Below.refl _ _).alloc (by simp <;> omega) _))
  go_enter Try.func22, Try.ntmps22
  go_upto_region 1 with fail
  generalize w.alloc (.cells #[.int .i64 m, .slice BA bs.length BC, .slice TA ts.length TC] 38) = w1 at *
  go_wp2_with fail
  go_ret
  exact ⟨rfl, HB.out⟩
set_option maxRecDepth 100000 in
set_option maxHeartbeats 2000000 in
theorem vz_2 (m : Int) (BA : Option Addr) (BC : Nat) (bs : List Bv) (TA : Option Addr) (TC : Nat) (ts : List Q4) (hb0 : bs.length ≤ 1000) (ht0 : ts.length ≤ 1000) (h0 : 1 ≤ m) (h1 : m ≤ 600) (h : ¬ Twt ts) (w : World) (hl : BdS w BA bs) (hm : S4 w TA ts) :
    Calls Try.prog 22 #[.agg #[.int .i64 m, .slice BA bs.length BC, .slice TA ts.length TC]] w fun e_ w' => e_ = .returned (.bool true) ∧ Below w.heap.size w w' := by
  have CT := Lib.hid (fun W (h : S4 W TA ts) => ath_is TA TC ts false (by simp [*]) W h)
  have z1 : decide (m < 1) = false := decide_eq_false (by omega)
  have z2 : decide (600 < m) = false := decide_eq_false (by omega)
  clear h
  have HL := Lib.hid hl
  clear hl
  have HM := Lib.hid hm
  clear hm
  have p0 : World.cell? (w.alloc (.cells #[.int .i64 m, .slice BA bs.length BC, .slice TA ts.length TC] 38)) ⟨w.heap.size, 0, none⟩ = some (.int .i64 m) := by simp [go_sem]
  have p1 : World.cell? (w.alloc (.cells #[.int .i64 m, .slice BA bs.length BC, .slice TA ts.length TC] 38)) ⟨w.heap.size, 1, none⟩ = some (.slice BA bs.length BC) := by simp [go_sem]
  have p2 : World.cell? (w.alloc (.cells #[.int .i64 m, .slice BA bs.length BC, .slice TA ts.length TC] 38)) ⟨w.heap.size, 2, none⟩ = some (.slice TA ts.length TC) := by simp [go_sem]
  have lp : w.heap.size < (w.alloc (.cells #[.int .i64 m, .slice BA bs.length BC, .slice TA ts.length TC] 38)).heap.size := by simp <;> omega
  have HB := Lib.hid (show Below w.heap.size w (w.alloc (.cells #[.int .i64 m, .slice BA bs.length BC, .slice TA ts.length TC] 38)) from ((Below.refl _ _).alloc (by simp <;> omega) _))
  go_enter Try.func22, Try.ntmps22
  go_upto_region 1 with fail
  generalize w.alloc (.cells #[.int .i64 m, .slice BA bs.length BC, .slice TA ts.length TC] 38) = w1 at *
  replace HL := Lib.hid (HL.out.below HB.out)
  replace HM := Lib.hid (HM.out.below HB.out)
  go_wp2_with fail
  with_reducible refine (CT.out _ HM.out).mono ?_
  rintro e_ w2 ⟨rfl, hb⟩
  replace HB := Lib.hid (on_below HB.out hb)
  replace HL := Lib.hid (HL.out.below hb)
  replace HM := Lib.hid (HM.out.below hb)
  replace p0 := keepc hb p0
  replace p1 := keepc hb p1
  replace p2 := keepc hb p2
  replace lp := Nat.lt_of_lt_of_le lp hb.size
  clear hb
  go_wp2_with fail
  go_ret
  exact ⟨by first | rfl | simp [z1, z2], HB.out⟩
set_option maxRecDepth 100000 in
set_option maxHeartbeats 2000000 in
theorem vz_3 (m : Int) (BA : Option Addr) (BC : Nat) (bs : List Bv) (TA : Option Addr) (TC : Nat) (ts : List Q4) (hb0 : bs.length ≤ 1000) (ht0 : ts.length ≤ 1000) (h0 : 1 ≤ m) (h1 : m ≤ 600) (h : Twt ts) (r : Bool) (hr : r = true ↔ Bds bs) (w : World) (hl : BdS w BA bs) (hm : S4 w TA ts) :
    Calls Try.prog 22 #[.agg #[.int .i64 m, .slice BA bs.length BC, .slice TA ts.length TC]] w fun e_ w' => e_ = .returned (.bool (!r)) ∧ Below w.heap.size w w' := by
  have CT := Lib.hid (fun W (h : S4 W TA ts) => ath_is TA TC ts true (by simp [*]) W h)
  have CB := Lib.hid (fun W (h : BdS W BA bs) => abz_is BA BC bs (by omega) r hr W h)
  clear hr
  have z1 : decide (m < 1) = false := decide_eq_false (by omega)
  have z2 : decide (600 < m) = false := decide_eq_false (by omega)
  clear h
  have HL := Lib.hid hl
  clear hl
  have HM := Lib.hid hm
  clear hm
  have p0 : World.cell? (w.alloc (.cells #[.int .i64 m, .slice BA bs.length BC, .slice TA ts.length TC] 38)) ⟨w.heap.size, 0, none⟩ = some (.int .i64 m) := by simp [go_sem]
  have p1 : World.cell? (w.alloc (.cells #[.int .i64 m, .slice BA bs.length BC, .slice TA ts.length TC] 38)) ⟨w.heap.size, 1, none⟩ = some (.slice BA bs.length BC) := by simp [go_sem]
  have p2 : World.cell? (w.alloc (.cells #[.int .i64 m, .slice BA bs.length BC, .slice TA ts.length TC] 38)) ⟨w.heap.size, 2, none⟩ = some (.slice TA ts.length TC) := by simp [go_sem]
  have lp : w.heap.size < (w.alloc (.cells #[.int .i64 m, .slice BA bs.length BC, .slice TA ts.length TC] 38)).heap.size := by simp <;> omega
  have HB := Lib.hid (show Below w.heap.size w (w.alloc (.cells #[.int .i64 m, .slice BA bs.length BC, .slice TA ts.length TC] 38)) from ((Below.refl _ _).alloc (by simp <;> omega) _))
  go_enter Try.func22, Try.ntmps22
  go_upto_region 1 with fail
  generalize w.alloc (.cells #[.int .i64 m, .slice BA bs.length BC, .slice TA ts.length TC] 38) = w1 at *
  replace HL := Lib.hid (HL.out.below HB.out)
  replace HM := Lib.hid (HM.out.below HB.out)
  go_wp2_with fail
  with_reducible refine (CT.out _ HM.out).mono ?_
  rintro e_ w2 ⟨rfl, hb⟩
  replace HB := Lib.hid (on_below HB.out hb)
  replace HL := Lib.hid (HL.out.below hb)
  replace HM := Lib.hid (HM.out.below hb)
  replace p0 := keepc hb p0
  replace p1 := keepc hb p1
  replace p2 := keepc hb p2
  replace lp := Nat.lt_of_lt_of_le lp hb.size
  clear hb
  go_wp2_with fail
  with_reducible refine (CB.out _ HL.out).mono ?_
  rintro e_ w3 ⟨rfl, hb⟩
  replace HB := Lib.hid (on_below HB.out hb)
  replace HL := Lib.hid (HL.out.below hb)
  replace HM := Lib.hid (HM.out.below hb)
  replace p0 := keepc hb p0
  replace p1 := keepc hb p1
  replace p2 := keepc hb p2
  replace lp := Nat.lt_of_lt_of_le lp hb.size
  clear hb
  go_wp2_with fail
  go_ret
  exact ⟨by first | rfl | simp [z1, z2], HB.out⟩
theorem vz_is (s : Sv) (hb0 : s.bs.length ≤ 1000) (ht0 : s.ts.length ≤ 1000) (r : Bool) (hr : r = false ↔ Sco s) (w : World) (hl : BdS w s.BA s.bs) (hm : S4 w s.TA s.ts) :
    Calls Try.prog 22 #[.agg #[.int .i64 s.m, .slice s.BA s.bs.length s.BC, .slice s.TA s.ts.length s.TC]] w fun e_ w' => e_ = .returned (.bool r) ∧ Below w.heap.size w w' := by
  obtain ⟨m, BA, BC, bs, TA, TC, ts⟩ := s
  dsimp only at *
  have bad : ¬ Sco ⟨m, BA, BC, bs, TA, TC, ts⟩ → r = true := fun h => by cases r; exact absurd (hr.1 rfl) h; rfl
  by_cases h0 : m < 1
  · obtain rfl := bad (fun h => by have := h.1; dsimp only at this; omega)
    exact vz_0 m BA BC bs TA TC ts hb0 ht0 h0 w
  by_cases h1 : 600 < m
  · obtain rfl := bad (fun h => by have := h.2.1; dsimp only at this; omega)
    exact vz_1 m BA BC bs TA TC ts hb0 ht0 (by omega) h1 w
  by_cases h2 : Twt ts
  · have h := vz_3 m BA BC bs TA TC ts hb0 ht0 (by omega) (by omega) h2 (!r) (by
      rw [Bool.not_eq_true', hr]
      exact ⟨fun h => h.2.2.2, fun h => ⟨by show 1 ≤ m; omega, by show m ≤ 600; omega, h2, h⟩⟩) w hl hm
    rwa [Bool.not_not] at h
  · obtain rfl := bad (fun h => h2 h.2.2.1)
    exact vz_2 m BA BC bs TA TC ts hb0 ht0 (by omega) (by omega) h2 w hl hm
theorem tm_enter (args : Array Value) (W : World) : (callFunc 39 args).run Try.prog W = .ok (.enter 39 args) W := by simp [go_sem]
set_option maxRecDepth 100000 in
set_option maxHeartbeats 2000000 in
theorem tm_t (sl ol : Nat) (SA : Option Addr) (SC : Nat) (NV : Value) (OA : Option Addr) (OC : Nat) (g g2 : Nat) (hs0 : sl ≤ 1000) (ho0 : ol ≤ 1000) (m : Int) (BA : Option Addr) (BC : Nat) (bs : List Bv) (TA : Option Addr) (TC : Nat) (ts : List Q4) (hb0 : bs.length ≤ 1000) (ht0 : ts.length ≤ 1000) (hr : 60 < sl + bs.length + ol) (w : World) (c0 : w.cell? ⟨g, 0, none⟩ = some (.slice SA sl SC)) (c1 : w.cell? ⟨g, 1, none⟩ = some NV) (c2 : w.cell? ⟨g2, 0, none⟩ = some (.slice OA ol OC)) :
    Calls Try.prog 39 #[.agg #[.int .i64 m, .slice BA bs.length BC, .slice TA ts.length TC], .pointer (some ⟨g, 0, none⟩), .pointer (some ⟨g2, 0, none⟩)] w fun e_ w' => e_ = .returned (.bool true) ∧ Below w.heap.size w w' := by
  have p0 : World.cell? (w.alloc (.cells #[.int .i64 m, .slice BA bs.length BC, .slice TA ts.length TC] 38)) ⟨w.heap.size, 0, none⟩ = some (.int .i64 m) := by simp [go_sem]
  have p1 : World.cell? (w.alloc (.cells #[.int .i64 m, .slice BA bs.length BC, .slice TA ts.length TC] 38)) ⟨w.heap.size, 1, none⟩ = some (.slice BA bs.length BC) := by simp [go_sem]
  have p2 : World.cell? (w.alloc (.cells #[.int .i64 m, .slice BA bs.length BC, .slice TA ts.length TC] 38)) ⟨w.heap.size, 2, none⟩ = some (.slice TA ts.length TC) := by simp [go_sem]
  have lp : w.heap.size < (w.alloc (.cells #[.int .i64 m, .slice BA bs.length BC, .slice TA ts.length TC] 38)).heap.size := by simp <;> omega
  have HB := Lib.hid (show Below w.heap.size w (w.alloc (.cells #[.int .i64 m, .slice BA bs.length BC, .slice TA ts.length TC] 38)) from ((Below.refl _ _).alloc (by simp <;> omega) _))
  go_enter Try.func39, Try.ntmps39
  go_upto_region 1 with fail
  generalize w.alloc (.cells #[.int .i64 m, .slice BA bs.length BC, .slice TA ts.length TC] 38) = w1 at *
  replace c0 := keepc HB.out c0
  replace c1 := keepc HB.out c1
  replace c2 := keepc HB.out c2
  have w1_ : IntKind.i64.wrap ((sl : Int) + bs.length) = (sl : Int) + bs.length := IntWalk.i64_in _ ⟨by omega, by omega⟩
  have w2_ : wrap64 ((sl : Int) + bs.length) = (sl : Int) + bs.length := IntWalk.wrap64_in _ ⟨by omega, by omega⟩
  have w3_ : IntKind.i64.wrap ((sl : Int) + bs.length + ol) = (sl : Int) + bs.length + ol := IntWalk.i64_in _ ⟨by omega, by omega⟩
  have w4_ : wrap64 ((sl : Int) + bs.length + ol) = (sl : Int) + bs.length + ol := IntWalk.wrap64_in _ ⟨by omega, by omega⟩
  have z1 : (60 : Int) < (sl : Int) + bs.length + ol := by omega
  go_wp2_with fail
  go_ret
  exact ⟨by first | rfl | simp [z1], HB.out⟩
set_option maxRecDepth 100000 in
set_option maxHeartbeats 2000000 in
theorem tm_f (sl ol : Nat) (SA : Option Addr) (SC : Nat) (NV : Value) (OA : Option Addr) (OC : Nat) (g g2 : Nat) (hs0 : sl ≤ 1000) (ho0 : ol ≤ 1000) (m : Int) (BA : Option Addr) (BC : Nat) (bs : List Bv) (TA : Option Addr) (TC : Nat) (ts : List Q4) (hb0 : bs.length ≤ 1000) (ht0 : ts.length ≤ 1000) (hr : ¬ 60 < sl + bs.length + ol) (w : World) (c0 : w.cell? ⟨g, 0, none⟩ = some (.slice SA sl SC)) (c1 : w.cell? ⟨g, 1, none⟩ = some NV) (c2 : w.cell? ⟨g2, 0, none⟩ = some (.slice OA ol OC)) :
    Calls Try.prog 39 #[.agg #[.int .i64 m, .slice BA bs.length BC, .slice TA ts.length TC], .pointer (some ⟨g, 0, none⟩), .pointer (some ⟨g2, 0, none⟩)] w fun e_ w' => e_ = .returned (.bool false) ∧ Below w.heap.size w w' := by
  have p0 : World.cell? (w.alloc (.cells #[.int .i64 m, .slice BA bs.length BC, .slice TA ts.length TC] 38)) ⟨w.heap.size, 0, none⟩ = some (.int .i64 m) := by simp [go_sem]
  have p1 : World.cell? (w.alloc (.cells #[.int .i64 m, .slice BA bs.length BC, .slice TA ts.length TC] 38)) ⟨w.heap.size, 1, none⟩ = some (.slice BA bs.length BC) := by simp [go_sem]
  have p2 : World.cell? (w.alloc (.cells #[.int .i64 m, .slice BA bs.length BC, .slice TA ts.length TC] 38)) ⟨w.heap.size, 2, none⟩ = some (.slice TA ts.length TC) := by simp [go_sem]
  have lp : w.heap.size < (w.alloc (.cells #[.int .i64 m, .slice BA bs.length BC, .slice TA ts.length TC] 38)).heap.size := by simp <;> omega
  have HB := Lib.hid (show Below w.heap.size w (w.alloc (.cells #[.int .i64 m, .slice BA bs.length BC, .slice TA ts.length TC] 38)) from ((Below.refl _ _).alloc (by simp <;> omega) _))
  go_enter Try.func39, Try.ntmps39
  go_upto_region 1 with fail
  generalize w.alloc (.cells #[.int .i64 m, .slice BA bs.length BC, .slice TA ts.length TC] 38) = w1 at *
  replace c0 := keepc HB.out c0
  replace c1 := keepc HB.out c1
  replace c2 := keepc HB.out c2
  have w1_ : IntKind.i64.wrap ((sl : Int) + bs.length) = (sl : Int) + bs.length := IntWalk.i64_in _ ⟨by omega, by omega⟩
  have w2_ : wrap64 ((sl : Int) + bs.length) = (sl : Int) + bs.length := IntWalk.wrap64_in _ ⟨by omega, by omega⟩
  have w3_ : IntKind.i64.wrap ((sl : Int) + bs.length + ol) = (sl : Int) + bs.length + ol := IntWalk.i64_in _ ⟨by omega, by omega⟩
  have w4_ : wrap64 ((sl : Int) + bs.length + ol) = (sl : Int) + bs.length + ol := IntWalk.wrap64_in _ ⟨by omega, by omega⟩
  have z1 : ¬ (60 : Int) < (sl : Int) + bs.length + ol := by omega
  go_wp2_with fail
  go_ret
  exact ⟨by first | rfl | simp [z1], HB.out⟩
theorem tm_1 (sl ol : Nat) (SA : Option Addr) (SC : Nat) (NV : Value) (OA : Option Addr) (OC : Nat) (g g2 : Nat) (hs0 : sl ≤ 1000) (ho0 : ol ≤ 1000) (m : Int) (BA : Option Addr) (BC : Nat) (bs : List Bv) (TA : Option Addr) (TC : Nat) (ts : List Q4) (hb0 : bs.length ≤ 1000) (ht0 : ts.length ≤ 1000) (r : Bool) (hr : decide (60 < sl + bs.length + ol) = r) (w : World) (c0 : w.cell? ⟨g, 0, none⟩ = some (.slice SA sl SC)) (c1 : w.cell? ⟨g, 1, none⟩ = some NV) (c2 : w.cell? ⟨g2, 0, none⟩ = some (.slice OA ol OC)) :
    Calls Try.prog 39 #[.agg #[.int .i64 m, .slice BA bs.length BC, .slice TA ts.length TC], .pointer (some ⟨g, 0, none⟩), .pointer (some ⟨g2, 0, none⟩)] w fun e_ w' => e_ = .returned (.bool r) ∧ Below w.heap.size w w' := by
  cases r
  · exact tm_f sl ol SA SC NV OA OC g g2 hs0 ho0 m BA BC bs TA TC ts hb0 ht0 (of_decide_eq_false hr) w c0 c1 c2
  · exact tm_t sl ol SA SC NV OA OC g g2 hs0 ho0 m BA BC bs TA TC ts hb0 ht0 (of_decide_eq_true hr) w c0 c1 c2
set_option maxRecDepth 100000 in
set_option maxHeartbeats 2000000 in
theorem tmb_is (SA : Option Addr) (SC : Nat) (S : List Bv) (NA : Option Addr) (NC : Nat) (N : List Sv) (OA : Option Addr) (OC : Nat) (O : List Bv) (hs : Sml S N) (ho0 : O.length ≤ 1000) (r : Bool) (hr : r = false ↔ Lim S.length O.length N) (w : World) (hn : SvS w NA N) :
    Calls Try.prog 21 #[.agg #[.slice SA S.length SC, .slice NA N.length NC], .slice OA O.length OC] w fun e_ w' => e_ = .returned (.bool r) ∧ Below w.heap.size w w' := by
  have hmf : ∀ (fn : Fn) (first cap : Array Value) (w : World), (Instr.makeFunc fn first cap).run Try.prog w = .ok (.func fn first cap) w := fun _ _ _ _ => rfl
  have HC := Lib.hid (fun (g g2 : Nat) W (h : SvS W NA N) (c0 : W.cell? ⟨g, 0, none⟩ = some (.slice SA S.length SC)) (c1 : W.cell? ⟨g, 1, none⟩ = some (.slice NA N.length NC)) (c2 : W.cell? ⟨g2, 0, none⟩ = some (.slice OA O.length OC)) => zhas_is 39 #[.pointer (some ⟨g, 0, none⟩), .pointer (some ⟨g2, 0, none⟩)] tm_enter NA NC N (fun k => decide (60 < S.length + (gdV N k).bs.length + O.length)) (by have := hs.n; omega) W h (fun k hk W1 h1 => by simpa using tm_1 S.length O.length SA SC (.slice NA N.length NC) OA OC g g2 hs.s ho0 (gdV N k).m (gdV N k).BA (gdV N k).BC (gdV N k).bs (gdV N k).TA (gdV N k).TC (gdV N k).ts (hs.b k hk) (hs.t k hk) _ rfl W1 (keepc h1 c0) (keepc h1 c1) (keepc h1 c2)) r (by
    have hr2 : r = true ↔ ¬ Lim S.length O.length N := by rw [← hr]; cases r <;> simp
    rw [hr2]
    constructor
    · intro h
      apply Classical.byContradiction
      intro hn
      exact h fun k hk => by
        apply Classical.byContradiction
        intro hk2
        exact hn ⟨k, hk, decide_eq_true (by omega)⟩
    · rintro ⟨k, hk, h⟩ hl
      have h1 := of_decide_eq_true h
      have h2 := hl k hk
      omega))
  clear hr hs
  have HL := Lib.hid hn
  clear hn
  have p0 : World.cell? ((w.alloc (.cells #[.slice SA S.length SC, .slice NA N.length NC] 25)).alloc (.cells #[.slice OA O.length OC] 22)) ⟨w.heap.size, 0, none⟩ = some (.slice SA S.length SC) := by simp [go_sem]
  have p1 : World.cell? ((w.alloc (.cells #[.slice SA S.length SC, .slice NA N.length NC] 25)).alloc (.cells #[.slice OA O.length OC] 22)) ⟨w.heap.size, 1, none⟩ = some (.slice NA N.length NC) := by simp [go_sem]
  have lp : w.heap.size < ((w.alloc (.cells #[.slice SA S.length SC, .slice NA N.length NC] 25)).alloc (.cells #[.slice OA O.length OC] 22)).heap.size := by simp <;> omega
  have o0 : World.cell? ((w.alloc (.cells #[.slice SA S.length SC, .slice NA N.length NC] 25)).alloc (.cells #[.slice OA O.length OC] 22)) ⟨w.heap.size + 1, 0, none⟩ = some (.slice OA O.length OC) := by simp [go_sem]
  have lo : w.heap.size + 1 < ((w.alloc (.cells #[.slice SA S.length SC, .slice NA N.length NC] 25)).alloc (.cells #[.slice OA O.length OC] 22)).heap.size := by simp <;> omega
  have HB := Lib.hid (show Below w.heap.size w ((w.alloc (.cells #[.slice SA S.length SC, .slice NA N.length NC] 25)).alloc (.cells #[.slice OA O.length OC] 22)) from (((Below.refl _ _).alloc (by simp <;> omega) _).alloc (by simp <;> omega) _))
  go_enter Try.func21, Try.ntmps21
  go_upto_region 1 with fail
  generalize (w.alloc (.cells #[.slice SA S.length SC, .slice NA N.length NC] 25)).alloc (.cells #[.slice OA O.length OC] 22) = w1 at *
  replace HL := Lib.hid (HL.out.below HB.out)
  go_wp2_with fail
  with_reducible refine (HC.out _ _ _ HL.out p0 p1 o0).mono ?_
  rintro e_ w2 ⟨rfl, hb⟩
  replace HB := Lib.hid (on_below HB.out hb)
  replace HL := Lib.hid (HL.out.below hb)
  replace p0 := keepc hb p0
  replace p1 := keepc hb p1
  replace o0 := keepc hb o0
  replace lp := Nat.lt_of_lt_of_le lp hb.size
  replace lo := Nat.lt_of_lt_of_le lo hb.size
  clear hb
  go_wp2_with fail
  go_ret
  exact ⟨rfl, HB.out⟩
theorem at1_enter (args : Array Value) (W : World) : (callFunc 45 args).run Try.prog W = .ok (.enter 45 args) W := by simp [go_sem]
theorem at2_enter (args : Array Value) (W : World) : (callFunc 46 args).run Try.prog W = .ok (.enter 46 args) W := by simp [go_sem]
set_option maxRecDepth 100000 in
set_option maxHeartbeats 2000000 in
theorem at1_is (a b c d x y z : Int) (g : Nat) (r : Bool) (hr : decide (a = x ∧ b = y ∧ c = z) = r) (w : World) (g0 : w.cell? ⟨g, 0, none⟩ = some (.int .i64 x)) (g1 : w.cell? ⟨g, 1, none⟩ = some (.int .i64 y)) (g2 : w.cell? ⟨g, 2, none⟩ = some (.int .i64 z)) :
    Calls Try.prog 45 #[.agg #[.int .i64 a, .int .i64 b, .int .i64 c, .int .i64 d], .pointer (some ⟨g, 0, none⟩)] w fun e_ w' => e_ = .returned (.bool r) ∧ Below w.heap.size w w' := by
  have he : ∀ W, (binOp .eql 27 (.agg #[.int .i64 a, .int .i64 b, .int .i64 c]) (.agg #[.int .i64 x, .int .i64 y, .int .i64 z])).run Try.prog W = .ok (.bool r) W := fun W => vec_eq hr W
  clear hr
  have p0 : World.cell? (w.alloc (.cells #[.int .i64 a, .int .i64 b, .int .i64 c, .int .i64 d] 41)) ⟨w.heap.size, 0, none⟩ = some (.int .i64 a) := by simp [go_sem]
  have p1 : World.cell? (w.alloc (.cells #[.int .i64 a, .int .i64 b, .int .i64 c, .int .i64 d] 41)) ⟨w.heap.size, 1, none⟩ = some (.int .i64 b) := by simp [go_sem]
  have p2 : World.cell? (w.alloc (.cells #[.int .i64 a, .int .i64 b, .int .i64 c, .int .i64 d] 41)) ⟨w.heap.size, 2, none⟩ = some (.int .i64 c) := by simp [go_sem]
  have p3 : World.cell? (w.alloc (.cells #[.int .i64 a, .int .i64 b, .int .i64 c, .int .i64 d] 41)) ⟨w.heap.size, 3, none⟩ = some (.int .i64 d) := by simp [go_sem]
  have lp : w.heap.size < (w.alloc (.cells #[.int .i64 a, .int .i64 b, .int .i64 c, .int .i64 d] 41)).heap.size := by simp <;> omega
  have HB := Lib.hid (show Below w.heap.size w (w.alloc (.cells #[.int .i64 a, .int .i64 b, .int .i64 c, .int .i64 d] 41)) from ((Below.refl _ _).alloc (by simp <;> omega) _))
  go_enter Try.func45, Try.ntmps45
  go_upto_region 1 with fail
  generalize w.alloc (.cells #[.int .i64 a, .int .i64 b, .int .i64 c, .int .i64 d] 41) = w1 at *
  replace g0 := keepc HB.out g0
  replace g1 := keepc HB.out g1
  replace g2 := keepc HB.out g2
  go_wp2_with fail
  go_ret
  exact ⟨rfl, HB.out⟩
set_option maxRecDepth 100000 in
set_option maxHeartbeats 2000000 in
theorem at2_is (ex ey ez : Int) (g g2 : Nat) (m : Int) (BA : Option Addr) (BC : Nat) (bs : List Bv) (TA : Option Addr) (TC : Nat) (ts : List Q4) (hb0 : bs.length ≤ 1000) (ht0 : ts.length ≤ 1000) (r : Bool) (hr : r = false ↔ Eyo ex ey ez ts) (w : World) (hm : S4 w TA ts) (c0 : w.cell? ⟨g, 0, none⟩ = some (.int .i64 ex)) (c1 : w.cell? ⟨g, 1, none⟩ = some (.int .i64 ey)) (c2 : w.cell? ⟨g, 2, none⟩ = some (.int .i64 ez)) (c3 : w.cell? ⟨g2, 0, none⟩ = some (.func (.func 45) #[] #[.pointer (some ⟨g, 0, none⟩)])) :
    Calls Try.prog 46 #[.agg #[.int .i64 m, .slice BA bs.length BC, .slice TA ts.length TC], .pointer (some ⟨g2, 0, none⟩)] w fun e_ w' => e_ = .returned (.bool r) ∧ Below w.heap.size w w' := by
  have HC := Lib.hid (fun W (h : S4 W TA ts) (g0 : W.cell? ⟨g, 0, none⟩ = some (.int .i64 ex)) (g1 : W.cell? ⟨g, 1, none⟩ = some (.int .i64 ey)) (g2 : W.cell? ⟨g, 2, none⟩ = some (.int .i64 ez)) => thas_is 45 #[.pointer (some ⟨g, 0, none⟩)] at1_enter TA TC ts (fun k => decide ((gd4 ts k).a = ex ∧ (gd4 ts k).b = ey ∧ (gd4 ts k).c = ez)) (by omega) W h (fun k hk W1 h1 => by simpa using at1_is (gd4 ts k).a (gd4 ts k).b (gd4 ts k).c (gd4 ts k).d ex ey ez g _ rfl W1 (keepc h1 g0) (keepc h1 g1) (keepc h1 g2)) r (by
    have hr2 : r = true ↔ ¬ Eyo ex ey ez ts := by rw [← hr]; cases r <;> simp
    rw [hr2]
    constructor
    · intro h
      apply Classical.byContradiction
      intro hn
      exact h fun k hk e => hn ⟨k, hk, decide_eq_true e⟩
    · rintro ⟨k, hk, h⟩ hl
      exact hl k hk (of_decide_eq_true h)))
  clear hr
  have HM := Lib.hid hm
  clear hm
  have p0 : World.cell? (w.alloc (.cells #[.int .i64 m, .slice BA bs.length BC, .slice TA ts.length TC] 38)) ⟨w.heap.size, 0, none⟩ = some (.int .i64 m) := by simp [go_sem]
  have p1 : World.cell? (w.alloc (.cells #[.int .i64 m, .slice BA bs.length BC, .slice TA ts.length TC] 38)) ⟨w.heap.size, 1, none⟩ = some (.slice BA bs.length BC) := by simp [go_sem]
  have p2 : World.cell? (w.alloc (.cells #[.int .i64 m, .slice BA bs.length BC, .slice TA ts.length TC] 38)) ⟨w.heap.size, 2, none⟩ = some (.slice TA ts.length TC) := by simp [go_sem]
  have lp : w.heap.size < (w.alloc (.cells #[.int .i64 m, .slice BA bs.length BC, .slice TA ts.length TC] 38)).heap.size := by simp <;> omega
  have HB := Lib.hid (show Below w.heap.size w (w.alloc (.cells #[.int .i64 m, .slice BA bs.length BC, .slice TA ts.length TC] 38)) from ((Below.refl _ _).alloc (by simp <;> omega) _))
  go_enter Try.func46, Try.ntmps46
  go_upto_region 1 with fail
  generalize w.alloc (.cells #[.int .i64 m, .slice BA bs.length BC, .slice TA ts.length TC] 38) = w1 at *
  replace HM := Lib.hid (HM.out.below HB.out)
  replace c0 := keepc HB.out c0
  replace c1 := keepc HB.out c1
  replace c2 := keepc HB.out c2
  replace c3 := keepc HB.out c3
  go_wp2_with fail
  with_reducible refine (HC.out _ HM.out c0 c1 c2).mono ?_
  rintro e_ w2 ⟨rfl, hb⟩
  replace HB := Lib.hid (on_below HB.out hb)
  replace HM := Lib.hid (HM.out.below hb)
  replace p0 := keepc hb p0
  replace p1 := keepc hb p1
  replace p2 := keepc hb p2
  replace c0 := keepc hb c0
  replace c1 := keepc hb c1
  replace c2 := keepc hb c2
  replace c3 := keepc hb c3
  replace lp := Nat.lt_of_lt_of_le lp hb.size
  clear hb
  go_wp2_with fail
  go_ret
  exact ⟨rfl, HB.out⟩
set_option maxRecDepth 100000 in
set_option maxHeartbeats 2000000 in
theorem ats_is (ex ey ez : Int) (SA : Option Addr) (SC : Nat) (S : List Bv) (NA : Option Addr) (NC : Nat) (N : List Sv) (hs : Sml S N) (r : Bool) (hr : r = false ↔ ∀ k, k < N.length → Eyo ex ey ez (gdV N k).ts) (w : World) (hn : SvS w NA N) :
    Calls Try.prog 27 #[.agg #[.int .i64 ex, .int .i64 ey, .int .i64 ez], .agg #[.slice SA S.length SC, .slice NA N.length NC]] w fun e_ w' => e_ = .returned (.bool r) ∧ Below w.heap.size w w' := by
  have hmf : ∀ (fn : Fn) (first cap : Array Value) (w : World), (Instr.makeFunc fn first cap).run Try.prog w = .ok (.func fn first cap) w := fun _ _ _ _ => rfl
  obtain ⟨p, hp⟩ : ∃ p : Nat → Bool, ∀ k, p k = false ↔ Eyo ex ey ez (gdV N k).ts := by
    classical
    exact ⟨fun k => !decide (Eyo ex ey ez (gdV N k).ts), fun k => by simp⟩
  have HC := Lib.hid (fun (g g2 : Nat) W (h : SvS W NA N) (c0 : W.cell? ⟨g, 0, none⟩ = some (.int .i64 ex)) (c1 : W.cell? ⟨g, 1, none⟩ = some (.int .i64 ey)) (c2 : W.cell? ⟨g, 2, none⟩ = some (.int .i64 ez)) (c3 : W.cell? ⟨g2, 0, none⟩ = some (.func (.func 45) #[] #[.pointer (some ⟨g, 0, none⟩)])) => zhas_is 46 #[.pointer (some ⟨g2, 0, none⟩)] at2_enter NA NC N p (by have := hs.n; omega) W h (fun k hk W1 h1 => by
    obtain ⟨_, _, _, _, _, _, _, hts⟩ := h.below h1 k hk
    simpa using at2_is ex ey ez g g2 (gdV N k).m (gdV N k).BA (gdV N k).BC (gdV N k).bs (gdV N k).TA (gdV N k).TC (gdV N k).ts (hs.b k hk) (hs.t k hk) (p k) (hp k) W1 hts (keepc h1 c0) (keepc h1 c1) (keepc h1 c2) (keepc h1 c3)) r (by
    have hr2 : r = true ↔ ¬ (∀ k, k < N.length → Eyo ex ey ez (gdV N k).ts) := by rw [← hr]; cases r <;> simp
    rw [hr2]
    constructor
    · intro h
      apply Classical.byContradiction
      intro hn
      exact h fun k hk => (hp k).1 (not_true fun e => hn ⟨k, hk, e⟩)
    · rintro ⟨k, hk, h⟩ hl
      rw [(hp k).2 (hl k hk)] at h
      cases h))
  clear hr hs hp
  have HL := Lib.hid hn
  clear hn
  have q0 : World.cell? ((w.alloc (.cells #[.int .i64 ex, .int .i64 ey, .int .i64 ez] 27)).alloc (.cells #[.slice SA S.length SC, .slice NA N.length NC] 25)) ⟨w.heap.size, 0, none⟩ = some (.int .i64 ex) := by simp [go_sem]
  have q1 : World.cell? ((w.alloc (.cells #[.int .i64 ex, .int .i64 ey, .int .i64 ez] 27)).alloc (.cells #[.slice SA S.length SC, .slice NA N.length NC] 25)) ⟨w.heap.size, 1, none⟩ = some (.int .i64 ey) := by simp [go_sem]
  have q2 : World.cell? ((w.alloc (.cells #[.int .i64 ex, .int .i64 ey, .int .i64 ez] 27)).alloc (.cells #[.slice SA S.length SC, .slice NA N.length NC] 25)) ⟨w.heap.size, 2, none⟩ = some (.int .i64 ez) := by simp [go_sem]
  have lq : w.heap.size < ((w.alloc (.cells #[.int .i64 ex, .int .i64 ey, .int .i64 ez] 27)).alloc (.cells #[.slice SA S.length SC, .slice NA N.length NC] 25)).heap.size := by simp <;> omega
  have p0 : World.cell? ((w.alloc (.cells #[.int .i64 ex, .int .i64 ey, .int .i64 ez] 27)).alloc (.cells #[.slice SA S.length SC, .slice NA N.length NC] 25)) ⟨w.heap.size + 1, 0, none⟩ = some (.slice SA S.length SC) := by simp [go_sem]
  have p1 : World.cell? ((w.alloc (.cells #[.int .i64 ex, .int .i64 ey, .int .i64 ez] 27)).alloc (.cells #[.slice SA S.length SC, .slice NA N.length NC] 25)) ⟨w.heap.size + 1, 1, none⟩ = some (.slice NA N.length NC) := by simp [go_sem]
  have lp : w.heap.size + 1 < ((w.alloc (.cells #[.int .i64 ex, .int .i64 ey, .int .i64 ez] 27)).alloc (.cells #[.slice SA S.length SC, .slice NA N.length NC] 25)).heap.size := by simp <;> omega
  have HB := Lib.hid (show Below w.heap.size w ((w.alloc (.cells #[.int .i64 ex, .int .i64 ey, .int .i64 ez] 27)).alloc (.cells #[.slice SA S.length SC, .slice NA N.length NC] 25)) from (((Below.refl _ _).alloc (by simp <;> omega) _).alloc (by simp <;> omega) _))
  go_enter Try.func27, Try.ntmps27
  go_upto_region 1 with fail
  generalize (w.alloc (.cells #[.int .i64 ex, .int .i64 ey, .int .i64 ez] 27)).alloc (.cells #[.slice SA S.length SC, .slice NA N.length NC] 25) = w1 at *
  replace HL := Lib.hid (HL.out.below HB.out)
  go_wp2_with fail
  have CE : ∀ (V : World), (V.alloc (.cells #[.func (.func 45) #[] #[.pointer (some ⟨w.heap.size, 0, none⟩)]] 93)).cell? ⟨V.heap.size, 0, none⟩ = some (.func (.func 45) #[] #[.pointer (some ⟨w.heap.size, 0, none⟩)]) := fun V => by simp [go_sem]
  have hb := below_new w1 (.cells #[.func (.func 45) #[] #[.pointer (some ⟨w.heap.size, 0, none⟩)]] 93)
  with_reducible refine (HC.out _ _ _ (HL.out.below hb) (keepc hb q0) (keepc hb q1) (keepc hb q2) (CE _)).mono ?_
  rintro e_ w9 ⟨rfl, hb9⟩
  replace HB := Lib.hid (on_below HB.out (on_below hb hb9))
  clear hb hb9 CE
  go_wp2_with fail
  go_ret
  exact ⟨rfl, HB.out⟩
end Go.Proofs.Ytiffgcipdamngaa

namespace Go.Proofs.Ytiffgcipdamngaa
open Go.RowKit Go.Sort
open Go.RowKit (Below)
set_option linter.unusedVariables false
set_option linter.unusedSimpArgs false
attribute [local go_sem] Oper.semAt_some

set_option maxRecDepth 100000 in
set_option maxHeartbeats 2000000 in
theorem scsv_0 (SA : Option Addr) (SC : Nat) (S : List Bv) (NA : Option Addr) (NC : Nat) (w : World) :
    Calls Try.prog 11 #[.agg #[.slice SA S.length SC, .slice NA 0 NC]] w fun e_ w' => e_ = .returned (.bool false) ∧ Below w.heap.size w w' := by
  have p0 : World.cell? (w.alloc (.cells #[.slice SA S.length SC, .slice NA 0 NC] 25)) ⟨w.heap.size, 0, none⟩ = some (.slice SA S.length SC) := by simp [go_sem]
  have p1 : World.cell? (w.alloc (.cells #[.slice SA S.length SC, .slice NA 0 NC] 25)) ⟨w.heap.size, 1, none⟩ = some (.slice NA 0 NC) := by simp [go_sem]
  have lp : w.heap.size < (w.alloc (.cells #[.slice SA S.length SC, .slice NA 0 NC] 25)).heap.size := by simp <;> omega
  have HB := Lib.hid (show Below w.heap.size w (w.alloc (.cells #[.slice SA S.length SC, .slice NA 0 NC] 25)) from ((Below.refl _ _).alloc (by simp <;> omega) _))
  go_enter Try.func11, Try.ntmps11
  go_upto_region 1 with fail
  generalize w.alloc (.cells #[.slice SA S.length SC, .slice NA 0 NC] 25) = w1 at *
  go_wp2_with fail
  go_ret
  exact ⟨rfl, HB.out⟩
set_option maxRecDepth 100000 in
set_option maxHeartbeats 2000000 in
theorem scsv_1 (SA : Option Addr) (SC : Nat) (S : List Bv) (NA : Option Addr) (NC : Nat) (N : List Sv) (hs : Sml S N) (h : 20 < N.length) (w : World) :
    Calls Try.prog 11 #[.agg #[.slice SA S.length SC, .slice NA N.length NC]] w fun e_ w' => e_ = .returned (.bool false) ∧ Below w.heap.size w w' := by
  have z0 : ((N.length : Int) == 0) = false := by rw [beq_eq_false_iff_ne]; omega
  have z1 : (20 : Int) < N.length := by omega
  have p0 : World.cell? (w.alloc (.cells #[.slice SA S.length SC, .slice NA N.length NC] 25)) ⟨w.heap.size, 0, none⟩ = some (.slice SA S.length SC) := by simp [go_sem]
  have p1 : World.cell? (w.alloc (.cells #[.slice SA S.length SC, .slice NA N.length NC] 25)) ⟨w.heap.size, 1, none⟩ = some (.slice NA N.length NC) := by simp [go_sem]
  have lp : w.heap.size < (w.alloc (.cells #[.slice SA S.length SC, .slice NA N.length NC] 25)).heap.size := by simp <;> omega
  have HB := Lib.hid (show Below w.heap.size w (w.alloc (.cells #[.slice SA S.length SC, .slice NA N.length NC] 25)) from ((Below.refl _ _).alloc (by simp <;> omega) _))
  go_enter Try.func11, Try.ntmps11
  go_upto_region 1 with fail
  generalize w.alloc (.cells #[.slice SA S.length SC, .slice NA N.length NC] 25) = w1 at *
  go_wp2_with fail
  go_ret
  exact ⟨rfl, HB.out⟩
set_option maxRecDepth 100000 in
set_option maxHeartbeats 2000000 in
theorem scsv_2 (SA : Option Addr) (SC : Nat) (S : List Bv) (NA : Option Addr) (NC : Nat) (N : List Sv) (hs : Sml S N) (h0 : 0 < N.length) (h1 : N.length ≤ 20) (h : ¬ Lim S.length 0 N) (w : World) (hn : SvS w NA N) (hm : BdS w SA S) :
    Calls Try.prog 11 #[.agg #[.slice SA S.length SC, .slice NA N.length NC]] w fun e_ w' => e_ = .returned (.bool false) ∧ Below w.heap.size w w' := by
  have hmf : ∀ (fn : Fn) (first cap : Array Value) (w : World), (Instr.makeFunc fn first cap).run Try.prog w = .ok (.func fn first cap) w := fun _ _ _ _ => rfl
  have HC := Lib.hid (fun W (a : SvS W NA N) => tmb_is SA SC S NA NC N none 0 [] hs (by simp) true (by simp [h]) W a)
  simp only [List.length_nil] at HC
  have z0 : ((N.length : Int) == 0) = false := by rw [beq_eq_false_iff_ne]; omega
  have z1 : ¬ (20 : Int) < N.length := by omega
  clear hs h h0 h1
  have HL := Lib.hid hn
  clear hn
  have HM := Lib.hid hm
  clear hm
  have p0 : World.cell? (w.alloc (.cells #[.slice SA S.length SC, .slice NA N.length NC] 25)) ⟨w.heap.size, 0, none⟩ = some (.slice SA S.length SC) := by simp [go_sem]
  have p1 : World.cell? (w.alloc (.cells #[.slice SA S.length SC, .slice NA N.length NC] 25)) ⟨w.heap.size, 1, none⟩ = some (.slice NA N.length NC) := by simp [go_sem]
  have lp : w.heap.size < (w.alloc (.cells #[.slice SA S.length SC, .slice NA N.length NC] 25)).heap.size := by simp <;> omega
  have HB := Lib.hid (show Below w.heap.size w (w.alloc (.cells #[.slice SA S.length SC, .slice NA N.length NC] 25)) from ((Below.refl _ _).alloc (by simp <;> omega) _))
  go_enter Try.func11, Try.ntmps11
  go_upto_region 1 with fail
  generalize w.alloc (.cells #[.slice SA S.length SC, .slice NA N.length NC] 25) = w1 at *
  replace HL := Lib.hid (HL.out.below HB.out)
  replace HM := Lib.hid (HM.out.below HB.out)
  go_wp2_with fail
  with_reducible refine (HC.out _ HL.out).mono ?_
  rintro e_ w2 ⟨rfl, hb⟩
  replace HB := Lib.hid (on_below HB.out hb)
  replace HL := Lib.hid (HL.out.below hb)
  replace HM := Lib.hid (HM.out.below hb)
  replace p0 := keepc hb p0
  replace p1 := keepc hb p1
  replace lp := Nat.lt_of_lt_of_le lp hb.size
  clear hb
  go_wp2_with fail
  go_ret
  exact ⟨by first | rfl | (cases r <;> rfl), HB.out⟩
set_option maxRecDepth 100000 in
set_option maxHeartbeats 2000000 in
theorem scsv_3 (SA : Option Addr) (SC : Nat) (S : List Bv) (NA : Option Addr) (NC : Nat) (N : List Sv) (hs : Sml S N) (h0 : 0 < N.length) (h1 : N.length ≤ 20) (h : Lim S.length 0 N) (hb : ¬ Bds S) (w : World) (hn : SvS w NA N) (hm : BdS w SA S) :
    Calls Try.prog 11 #[.agg #[.slice SA S.length SC, .slice NA N.length NC]] w fun e_ w' => e_ = .returned (.bool false) ∧ Below w.heap.size w w' := by
  have hmf : ∀ (fn : Fn) (first cap : Array Value) (w : World), (Instr.makeFunc fn first cap).run Try.prog w = .ok (.func fn first cap) w := fun _ _ _ _ => rfl
  have HC := Lib.hid (fun W (a : SvS W NA N) => tmb_is SA SC S NA NC N none 0 [] hs (by simp) false (by simp [h]) W a)
  simp only [List.length_nil] at HC
  have HB2 := Lib.hid (fun W (h : BdS W SA S) => abz_is SA SC S (by have := hs.s; omega) false (by simp [hb]) W h)
  have z0 : ((N.length : Int) == 0) = false := by rw [beq_eq_false_iff_ne]; omega
  have z1 : ¬ (20 : Int) < N.length := by omega
  clear hs h h0 h1 hb
  have HL := Lib.hid hn
  clear hn
  have HM := Lib.hid hm
  clear hm
  have p0 : World.cell? (w.alloc (.cells #[.slice SA S.length SC, .slice NA N.length NC] 25)) ⟨w.heap.size, 0, none⟩ = some (.slice SA S.length SC) := by simp [go_sem]
  have p1 : World.cell? (w.alloc (.cells #[.slice SA S.length SC, .slice NA N.length NC] 25)) ⟨w.heap.size, 1, none⟩ = some (.slice NA N.length NC) := by simp [go_sem]
  have lp : w.heap.size < (w.alloc (.cells #[.slice SA S.length SC, .slice NA N.length NC] 25)).heap.size := by simp <;> omega
  have HB := Lib.hid (show Below w.heap.size w (w.alloc (.cells #[.slice SA S.length SC, .slice NA N.length NC] 25)) from ((Below.refl _ _).alloc (by simp <;> omega) _))
  go_enter Try.func11, Try.ntmps11
  go_upto_region 1 with fail
  generalize w.alloc (.cells #[.slice SA S.length SC, .slice NA N.length NC] 25) = w1 at *
  replace HL := Lib.hid (HL.out.below HB.out)
  replace HM := Lib.hid (HM.out.below HB.out)
  go_wp2_with fail
  with_reducible refine (HC.out _ HL.out).mono ?_
  rintro e_ w2 ⟨rfl, hb⟩
  replace HB := Lib.hid (on_below HB.out hb)
  replace HL := Lib.hid (HL.out.below hb)
  replace HM := Lib.hid (HM.out.below hb)
  replace p0 := keepc hb p0
  replace p1 := keepc hb p1
  replace lp := Nat.lt_of_lt_of_le lp hb.size
  clear hb
  go_wp2_with fail
  with_reducible refine (HB2.out _ HM.out).mono ?_
  rintro e_ w3 ⟨rfl, hb⟩
  replace HB := Lib.hid (on_below HB.out hb)
  replace HL := Lib.hid (HL.out.below hb)
  replace HM := Lib.hid (HM.out.below hb)
  replace p0 := keepc hb p0
  replace p1 := keepc hb p1
  replace lp := Nat.lt_of_lt_of_le lp hb.size
  clear hb
  go_wp2_with fail
  go_ret
  exact ⟨by first | rfl | (cases r <;> rfl), HB.out⟩
set_option maxRecDepth 100000 in
set_option maxHeartbeats 2000000 in
theorem scsv_4 (SA : Option Addr) (SC : Nat) (S : List Bv) (NA : Option Addr) (NC : Nat) (N : List Sv) (hs : Sml S N) (h0 : 0 < N.length) (h1 : N.length ≤ 20) (h : Lim S.length 0 N) (hb : Bds S) (r : Bool) (hr : r = true ↔ ∀ k, k < N.length → Sco (gdV N k)) (w : World) (hn : SvS w NA N) (hm : BdS w SA S) :
    Calls Try.prog 11 #[.agg #[.slice SA S.length SC, .slice NA N.length NC]] w fun e_ w' => e_ = .returned (.bool r) ∧ Below w.heap.size w w' := by
  have hmf : ∀ (fn : Fn) (first cap : Array Value) (w : World), (Instr.makeFunc fn first cap).run Try.prog w = .ok (.func fn first cap) w := fun _ _ _ _ => rfl
  have HC := Lib.hid (fun W (a : SvS W NA N) => tmb_is SA SC S NA NC N none 0 [] hs (by simp) false (by simp [h]) W a)
  simp only [List.length_nil] at HC
  have HB2 := Lib.hid (fun W (h : BdS W SA S) => abz_is SA SC S (by have := hs.s; omega) true (by simp [hb]) W h)
  obtain ⟨p, hp⟩ : ∃ p : Nat → Bool, ∀ k, p k = false ↔ Sco (gdV N k) := by
    classical
    exact ⟨fun k => !decide (Sco (gdV N k)), fun k => by simp⟩
  have HZ := Lib.hid (fun W (h : SvS W NA N) => zhas_is 22 #[] vz_enter NA NC N p (by have := hs.n; omega) W h (fun k hk W1 h1 => by
    obtain ⟨_, _, _, _, _, _, hbs, hts⟩ := h.below h1 k hk
    simpa using vz_is (gdV N k) (hs.b k hk) (hs.t k hk) (p k) (hp k) W1 hbs hts) (!r) (by
    have hr2 : (!r) = true ↔ ¬ (∀ k, k < N.length → Sco (gdV N k)) := by rw [← hr]; cases r <;> simp
    rw [hr2]
    constructor
    · intro h
      apply Classical.byContradiction
      intro hn
      exact h fun k hk => (hp k).1 (not_true fun e => hn ⟨k, hk, e⟩)
    · rintro ⟨k, hk, h⟩ hl
      rw [(hp k).2 (hl k hk)] at h
      cases h))
  clear hr hp
  have z0 : ((N.length : Int) == 0) = false := by rw [beq_eq_false_iff_ne]; omega
  have z1 : ¬ (20 : Int) < N.length := by omega
  clear hs h h0 h1 hb
  have HL := Lib.hid hn
  clear hn
  have HM := Lib.hid hm
  clear hm
  have p0 : World.cell? (w.alloc (.cells #[.slice SA S.length SC, .slice NA N.length NC] 25)) ⟨w.heap.size, 0, none⟩ = some (.slice SA S.length SC) := by simp [go_sem]
  have p1 : World.cell? (w.alloc (.cells #[.slice SA S.length SC, .slice NA N.length NC] 25)) ⟨w.heap.size, 1, none⟩ = some (.slice NA N.length NC) := by simp [go_sem]
  have lp : w.heap.size < (w.alloc (.cells #[.slice SA S.length SC, .slice NA N.length NC] 25)).heap.size := by simp <;> omega
  have HB := Lib.hid (show Below w.heap.size w (w.alloc (.cells #[.slice SA S.length SC, .slice NA N.length NC] 25)) from ((Below.refl _ _).alloc (by simp <;> omega) _))
  go_enter Try.func11, Try.ntmps11
  go_upto_region 1 with fail
  generalize w.alloc (.cells #[.slice SA S.length SC, .slice NA N.length NC] 25) = w1 at *
  replace HL := Lib.hid (HL.out.below HB.out)
  replace HM := Lib.hid (HM.out.below HB.out)
  go_wp2_with fail
  with_reducible refine (HC.out _ HL.out).mono ?_
  rintro e_ w2 ⟨rfl, hb⟩
  replace HB := Lib.hid (on_below HB.out hb)
  replace HL := Lib.hid (HL.out.below hb)
  replace HM := Lib.hid (HM.out.below hb)
  replace p0 := keepc hb p0
  replace p1 := keepc hb p1
  replace lp := Nat.lt_of_lt_of_le lp hb.size
  clear hb
  go_wp2_with fail
  with_reducible refine (HB2.out _ HM.out).mono ?_
  rintro e_ w3 ⟨rfl, hb⟩
  replace HB := Lib.hid (on_below HB.out hb)
  replace HL := Lib.hid (HL.out.below hb)
  replace HM := Lib.hid (HM.out.below hb)
  replace p0 := keepc hb p0
  replace p1 := keepc hb p1
  replace lp := Nat.lt_of_lt_of_le lp hb.size
  clear hb
  go_wp2_with fail
  with_reducible refine (HZ.out _ HL.out).mono ?_
  rintro e_ w4 ⟨rfl, hb⟩
  replace HB := Lib.hid (on_below HB.out hb)
  replace HL := Lib.hid (HL.out.below hb)
  replace HM := Lib.hid (HM.out.below hb)
  replace p0 := keepc hb p0
  replace p1 := keepc hb p1
  replace lp := Nat.lt_of_lt_of_le lp hb.size
  clear hb
  go_wp2_with fail
  go_ret
  exact ⟨by first | rfl | (cases r <;> rfl), HB.out⟩
theorem scvalid_is (SA : Option Addr) (SC : Nat) (S : List Bv) (NA : Option Addr) (NC : Nat) (N : List Sv) (hs : Sml S N) (r : Bool) (hr : r = true ↔ Pok S N) (w : World) (hn : SvS w NA N) (hm : BdS w SA S) :
    Calls Try.prog 11 #[.agg #[.slice SA S.length SC, .slice NA N.length NC]] w fun e_ w' => e_ = .returned (.bool r) ∧ Below w.heap.size w w' := by
  by_cases h0 : N.length = 0
  · obtain rfl : false = r := false_of fun e => by have := (hr.1 e).1; omega
    rw [h0]
    exact scsv_0 SA SC S NA NC w
  by_cases h1 : 20 < N.length
  · obtain rfl : false = r := false_of fun e => by have := (hr.1 e).2.1; omega
    exact scsv_1 SA SC S NA NC N hs h1 w
  by_cases h2 : Lim S.length 0 N
  · by_cases h3 : Bds S
    · exact scsv_4 SA SC S NA NC N hs (by omega) (by omega) h2 h3 r (hr.trans ⟨fun h => h.2.2.2.2, fun h => ⟨by omega, by omega, h2, h3, h⟩⟩) w hn hm
    · obtain rfl : false = r := false_of fun e => h3 (hr.1 e).2.2.2.1
      exact scsv_3 SA SC S NA NC N hs (by omega) (by omega) h2 h3 w hn hm
  · obtain rfl : false = r := false_of fun e => h2 (hr.1 e).2.2.1
    exact scsv_2 SA SC S NA NC N hs (by omega) (by omega) h2 w hn hm
set_option maxRecDepth 100000 in
set_option maxHeartbeats 2000000 in
theorem er_1 (SA : Option Addr) (SC : Nat) (S : List Bv) (NA : Option Addr) (NC : Nat) (N : List Sv) (ex ey ez : Int) (OA : Option Addr) (OC : Nat) (O : List Bv) (hs : Sml S N) (ho0 : O.length ≤ 1000) (h1 : ¬ Pok S N) (w : World) (hn : SvS w NA N) (hm : BdS w SA S) (ho : BdS w OA O) :
    Calls Try.prog 12 #[.agg #[.slice SA S.length SC, .slice NA N.length NC], .agg #[.int .i64 ex, .int .i64 ey, .int .i64 ez], .slice OA O.length OC] w fun e_ w' => e_ = .returned (.int .i64 1) ∧ Below w.heap.size w w' := by
  have C1 := Lib.hid (fun W (a : SvS W NA N) (c : BdS W SA S) => scvalid_is SA SC S NA NC N hs false (by simp [h1]) W a c)
  clear hs h1
  have HN := Lib.hid hn
  clear hn
  have HM := Lib.hid hm
  clear hm
  have HO := Lib.hid ho
  clear ho
  have p0 : World.cell? ((w.alloc (.cells #[.slice SA S.length SC, .slice NA N.length NC] 25)).alloc (.cells #[.int .i64 ex, .int .i64 ey, .int .i64 ez] 27)) ⟨w.heap.size, 0, none⟩ = some (.slice SA S.length SC) := by simp [go_sem]
  have p1 : World.cell? ((w.alloc (.cells #[.slice SA S.length SC, .slice NA N.length NC] 25)).alloc (.cells #[.int .i64 ex, .int .i64 ey, .int .i64 ez] 27)) ⟨w.heap.size, 1, none⟩ = some (.slice NA N.length NC) := by simp [go_sem]
  have lp : w.heap.size < ((w.alloc (.cells #[.slice SA S.length SC, .slice NA N.length NC] 25)).alloc (.cells #[.int .i64 ex, .int .i64 ey, .int .i64 ez] 27)).heap.size := by simp <;> omega
  have q0 : World.cell? ((w.alloc (.cells #[.slice SA S.length SC, .slice NA N.length NC] 25)).alloc (.cells #[.int .i64 ex, .int .i64 ey, .int .i64 ez] 27)) ⟨w.heap.size + 1, 0, none⟩ = some (.int .i64 ex) := by simp [go_sem]
  have q1 : World.cell? ((w.alloc (.cells #[.slice SA S.length SC, .slice NA N.length NC] 25)).alloc (.cells #[.int .i64 ex, .int .i64 ey, .int .i64 ez] 27)) ⟨w.heap.size + 1, 1, none⟩ = some (.int .i64 ey) := by simp [go_sem]
  have q2 : World.cell? ((w.alloc (.cells #[.slice SA S.length SC, .slice NA N.length NC] 25)).alloc (.cells #[.int .i64 ex, .int .i64 ey, .int .i64 ez] 27)) ⟨w.heap.size + 1, 2, none⟩ = some (.int .i64 ez) := by simp [go_sem]
  have lq : w.heap.size + 1 < ((w.alloc (.cells #[.slice SA S.length SC, .slice NA N.length NC] 25)).alloc (.cells #[.int .i64 ex, .int .i64 ey, .int .i64 ez] 27)).heap.size := by simp <;> omega
  have HB := Lib.hid (show Below w.heap.size w ((w.alloc (.cells #[.slice SA S.length SC, .slice NA N.length NC] 25)).alloc (.cells #[.int .i64 ex, .int .i64 ey, .int .i64 ez] 27)) from (((Below.refl _ _).alloc (by simp <;> omega) _).alloc (by simp <;> omega) _))
  go_enter Try.func12, Try.ntmps12
  go_upto_region 1 with fail
  generalize (w.alloc (.cells #[.slice SA S.length SC, .slice NA N.length NC] 25)).alloc (.cells #[.int .i64 ex, .int .i64 ey, .int .i64 ez] 27) = w1 at *
  replace HN := Lib.hid (HN.out.below HB.out)
  replace HM := Lib.hid (HM.out.below HB.out)
  replace HO := Lib.hid (HO.out.below HB.out)
  go_wp2_with fail
  with_reducible refine (C1.out _ HN.out HM.out).mono ?_
  rintro e_ w2 ⟨rfl, hb⟩
  replace HB := Lib.hid (on_below HB.out hb)
  replace HN := Lib.hid (HN.out.below hb)
  replace HM := Lib.hid (HM.out.below hb)
  replace HO := Lib.hid (HO.out.below hb)
  replace p0 := keepc hb p0
  replace p1 := keepc hb p1
  replace q0 := keepc hb q0
  replace q1 := keepc hb q1
  replace q2 := keepc hb q2
  replace lp := Nat.lt_of_lt_of_le lp hb.size
  replace lq := Nat.lt_of_lt_of_le lq hb.size
  clear hb
  go_wp2_with fail
  go_ret
  exact ⟨rfl, HB.out⟩
set_option maxRecDepth 100000 in
set_option maxHeartbeats 2000000 in
theorem er_2 (SA : Option Addr) (SC : Nat) (S : List Bv) (NA : Option Addr) (NC : Nat) (N : List Sv) (ex ey ez : Int) (OA : Option Addr) (OC : Nat) (O : List Bv) (hs : Sml S N) (ho0 : O.length ≤ 1000) (h1 : Pok S N) (h2 : vv ex ey ez = false) (w : World) (hn : SvS w NA N) (hm : BdS w SA S) (ho : BdS w OA O) :
    Calls Try.prog 12 #[.agg #[.slice SA S.length SC, .slice NA N.length NC], .agg #[.int .i64 ex, .int .i64 ey, .int .i64 ez], .slice OA O.length OC] w fun e_ w' => e_ = .returned (.int .i64 1) ∧ Below w.heap.size w w' := by
  have C1 := Lib.hid (fun W (a : SvS W NA N) (c : BdS W SA S) => scvalid_is SA SC S NA NC N hs true (by simp [h1]) W a c)
  have C2 := Lib.hid (fun W => vvalid_is ex ey ez false h2 W)
  clear hs h1 h2
  have HN := Lib.hid hn
  clear hn
  have HM := Lib.hid hm
  clear hm
  have HO := Lib.hid ho
  clear ho
  have p0 : World.cell? ((w.alloc (.cells #[.slice SA S.length SC, .slice NA N.length NC] 25)).alloc (.cells #[.int .i64 ex, .int .i64 ey, .int .i64 ez] 27)) ⟨w.heap.size, 0, none⟩ = some (.slice SA S.length SC) := by simp [go_sem]
  have p1 : World.cell? ((w.alloc (.cells #[.slice SA S.length SC, .slice NA N.length NC] 25)).alloc (.cells #[.int .i64 ex, .int .i64 ey, .int .i64 ez] 27)) ⟨w.heap.size, 1, none⟩ = some (.slice NA N.length NC) := by simp [go_sem]
  have lp : w.heap.size < ((w.alloc (.cells #[.slice SA S.length SC, .slice NA N.length NC] 25)).alloc (.cells #[.int .i64 ex, .int .i64 ey, .int .i64 ez] 27)).heap.size := by simp <;> omega
  have q0 : World.cell? ((w.alloc (.cells #[.slice SA S.length SC, .slice NA N.length NC] 25)).alloc (.cells #[.int .i64 ex, .int .i64 ey, .int .i64 ez] 27)) ⟨w.heap.size + 1, 0, none⟩ = some (.int .i64 ex) := by simp [go_sem]
  have q1 : World.cell? ((w.alloc (.cells #[.slice SA S.length SC, .slice NA N.length NC] 25)).alloc (.cells #[.int .i64 ex, .int .i64 ey, .int .i64 ez] 27)) ⟨w.heap.size + 1, 1, none⟩ = some (.int .i64 ey) := by simp [go_sem]
  have q2 : World.cell? ((w.alloc (.cells #[.slice SA S.length SC, .slice NA N.length NC] 25)).alloc (.cells #[.int .i64 ex, .int .i64 ey, .int .i64 ez] 27)) ⟨w.heap.size + 1, 2, none⟩ = some (.int .i64 ez) := by simp [go_sem]
  have lq : w.heap.size + 1 < ((w.alloc (.cells #[.slice SA S.length SC, .slice NA N.length NC] 25)).alloc (.cells #[.int .i64 ex, .int .i64 ey, .int .i64 ez] 27)).heap.size := by simp <;> omega
  have HB := Lib.hid (show Below w.heap.size w ((w.alloc (.cells #[.slice SA S.length SC, .slice NA N.length NC] 25)).alloc (.cells #[.int .i64 ex, .int .i64 ey, .int .i64 ez] 27)) from (((Below.refl _ _).alloc (by simp <;> omega) _).alloc (by simp <;> omega) _))
  go_enter Try.func12, Try.ntmps12
  go_upto_region 1 with fail
  generalize (w.alloc (.cells #[.slice SA S.length SC, .slice NA N.length NC] 25)).alloc (.cells #[.int .i64 ex, .int .i64 ey, .int .i64 ez] 27) = w1 at *
  replace HN := Lib.hid (HN.out.below HB.out)
  replace HM := Lib.hid (HM.out.below HB.out)
  replace HO := Lib.hid (HO.out.below HB.out)
  go_wp2_with fail
  with_reducible refine (C1.out _ HN.out HM.out).mono ?_
  rintro e_ w2 ⟨rfl, hb⟩
  replace HB := Lib.hid (on_below HB.out hb)
  replace HN := Lib.hid (HN.out.below hb)
  replace HM := Lib.hid (HM.out.below hb)
  replace HO := Lib.hid (HO.out.below hb)
  replace p0 := keepc hb p0
  replace p1 := keepc hb p1
  replace q0 := keepc hb q0
  replace q1 := keepc hb q1
  replace q2 := keepc hb q2
  replace lp := Nat.lt_of_lt_of_le lp hb.size
  replace lq := Nat.lt_of_lt_of_le lq hb.size
  clear hb
  go_wp2_with fail
  with_reducible refine (C2.out _).mono ?_
  rintro e_ w3 ⟨rfl, hb⟩
  replace HB := Lib.hid (on_below HB.out hb)
  replace HN := Lib.hid (HN.out.below hb)
  replace HM := Lib.hid (HM.out.below hb)
  replace HO := Lib.hid (HO.out.below hb)
  replace p0 := keepc hb p0
  replace p1 := keepc hb p1
  replace q0 := keepc hb q0
  replace q1 := keepc hb q1
  replace q2 := keepc hb q2
  replace lp := Nat.lt_of_lt_of_le lp hb.size
  replace lq := Nat.lt_of_lt_of_le lq hb.size
  clear hb
  go_wp2_with fail
  go_ret
  exact ⟨rfl, HB.out⟩
set_option maxRecDepth 100000 in
set_option maxHeartbeats 2000000 in
theorem er_3 (SA : Option Addr) (SC : Nat) (S : List Bv) (NA : Option Addr) (NC : Nat) (N : List Sv) (ex ey ez : Int) (OA : Option Addr) (OC : Nat) (O : List Bv) (hs : Sml S N) (ho0 : O.length ≤ 1000) (h1 : Pok S N) (h2 : vv ex ey ez = true) (h3 : ¬ Bds O) (w : World) (hn : SvS w NA N) (hm : BdS w SA S) (ho : BdS w OA O) :
    Calls Try.prog 12 #[.agg #[.slice SA S.length SC, .slice NA N.length NC], .agg #[.int .i64 ex, .int .i64 ey, .int .i64 ez], .slice OA O.length OC] w fun e_ w' => e_ = .returned (.int .i64 1) ∧ Below w.heap.size w w' := by
  have C1 := Lib.hid (fun W (a : SvS W NA N) (c : BdS W SA S) => scvalid_is SA SC S NA NC N hs true (by simp [h1]) W a c)
  have C2 := Lib.hid (fun W => vvalid_is ex ey ez true h2 W)
  have C3 := Lib.hid (fun W (a : BdS W OA O) => abz_is OA OC O (by omega) false (by simp [h3]) W a)
  clear hs h1 h2 h3
  have HN := Lib.hid hn
  clear hn
  have HM := Lib.hid hm
  clear hm
  have HO := Lib.hid ho
  clear ho
  have p0 : World.cell? ((w.alloc (.cells #[.slice SA S.length SC, .slice NA N.length NC] 25)).alloc (.cells #[.int .i64 ex, .int .i64 ey, .int .i64 ez] 27)) ⟨w.heap.size, 0, none⟩ = some (.slice SA S.length SC) := by simp [go_sem]
  have p1 : World.cell? ((w.alloc (.cells #[.slice SA S.length SC, .slice NA N.length NC] 25)).alloc (.cells #[.int .i64 ex, .int .i64 ey, .int .i64 ez] 27)) ⟨w.heap.size, 1, none⟩ = some (.slice NA N.length NC) := by simp [go_sem]
  have lp : w.heap.size < ((w.alloc (.cells #[.slice SA S.length SC, .slice NA N.length NC] 25)).alloc (.cells #[.int .i64 ex, .int .i64 ey, .int .i64 ez] 27)).heap.size := by simp <;> omega
  have q0 : World.cell? ((w.alloc (.cells #[.slice SA S.length SC, .slice NA N.length NC] 25)).alloc (.cells #[.int .i64 ex, .int .i64 ey, .int .i64 ez] 27)) ⟨w.heap.size + 1, 0, none⟩ = some (.int .i64 ex) := by simp [go_sem]
  have q1 : World.cell? ((w.alloc (.cells #[.slice SA S.length SC, .slice NA N.length NC] 25)).alloc (.cells #[.int .i64 ex, .int .i64 ey, .int .i64 ez] 27)) ⟨w.heap.size + 1, 1, none⟩ = some (.int .i64 ey) := by simp [go_sem]
  have q2 : World.cell? ((w.alloc (.cells #[.slice SA S.length SC, .slice NA N.length NC] 25)).alloc (.cells #[.int .i64 ex, .int .i64 ey, .int .i64 ez] 27)) ⟨w.heap.size + 1, 2, none⟩ = some (.int .i64 ez) := by simp [go_sem]
  have lq : w.heap.size + 1 < ((w.alloc (.cells #[.slice SA S.length SC, .slice NA N.length NC] 25)).alloc (.cells #[.int .i64 ex, .int .i64 ey, .int .i64 ez] 27)).heap.size := by simp <;> omega
  have HB := Lib.hid (show Below w.heap.size w ((w.alloc (.cells #[.slice SA S.length SC, .slice NA N.length NC] 25)).alloc (.cells #[.int .i64 ex, .int .i64 ey, .int .i64 ez] 27)) from (((Below.refl _ _).alloc (by simp <;> omega) _).alloc (by simp <;> omega) _))
  go_enter Try.func12, Try.ntmps12
  go_upto_region 1 with fail
  generalize (w.alloc (.cells #[.slice SA S.length SC, .slice NA N.length NC] 25)).alloc (.cells #[.int .i64 ex, .int .i64 ey, .int .i64 ez] 27) = w1 at *
  replace HN := Lib.hid (HN.out.below HB.out)
  replace HM := Lib.hid (HM.out.below HB.out)
  replace HO := Lib.hid (HO.out.below HB.out)
  go_wp2_with fail
  with_reducible refine (C1.out _ HN.out HM.out).mono ?_
  rintro e_ w2 ⟨rfl, hb⟩
  replace HB := Lib.hid (on_below HB.out hb)
  replace HN := Lib.hid (HN.out.below hb)
  replace HM := Lib.hid (HM.out.below hb)
  replace HO := Lib.hid (HO.out.below hb)
  replace p0 := keepc hb p0
  replace p1 := keepc hb p1
  replace q0 := keepc hb q0
  replace q1 := keepc hb q1
  replace q2 := keepc hb q2
  replace lp := Nat.lt_of_lt_of_le lp hb.size
  replace lq := Nat.lt_of_lt_of_le lq hb.size
  clear hb
  go_wp2_with fail
  with_reducible refine (C2.out _).mono ?_
  rintro e_ w3 ⟨rfl, hb⟩
  replace HB := Lib.hid (on_below HB.out hb)
  replace HN := Lib.hid (HN.out.below hb)
  replace HM := Lib.hid (HM.out.below hb)
  replace HO := Lib.hid (HO.out.below hb)
  replace p0 := keepc hb p0
  replace p1 := keepc hb p1
  replace q0 := keepc hb q0
  replace q1 := keepc hb q1
  replace q2 := keepc hb q2
  replace lp := Nat.lt_of_lt_of_le lp hb.size
  replace lq := Nat.lt_of_lt_of_le lq hb.size
  clear hb
  go_wp2_with fail
  with_reducible refine (C3.out _ HO.out).mono ?_
  rintro e_ w4 ⟨rfl, hb⟩
  replace HB := Lib.hid (on_below HB.out hb)
  replace HN := Lib.hid (HN.out.below hb)
  replace HM := Lib.hid (HM.out.below hb)
  replace HO := Lib.hid (HO.out.below hb)
  replace p0 := keepc hb p0
  replace p1 := keepc hb p1
  replace q0 := keepc hb q0
  replace q1 := keepc hb q1
  replace q2 := keepc hb q2
  replace lp := Nat.lt_of_lt_of_le lp hb.size
  replace lq := Nat.lt_of_lt_of_le lq hb.size
  clear hb
  go_wp2_with fail
  go_ret
  exact ⟨rfl, HB.out⟩
set_option maxRecDepth 100000 in
set_option maxHeartbeats 2000000 in
theorem er_4 (SA : Option Addr) (SC : Nat) (S : List Bv) (NA : Option Addr) (NC : Nat) (N : List Sv) (ex ey ez : Int) (OA : Option Addr) (OC : Nat) (O : List Bv) (hs : Sml S N) (ho0 : O.length ≤ 1000) (h1 : Pok S N) (h2 : vv ex ey ez = true) (h3 : Bds O) (h4 : ¬ (∀ k, k < N.length → Eyo ex ey ez (gdV N k).ts)) (w : World) (hn : SvS w NA N) (hm : BdS w SA S) (ho : BdS w OA O) :
    Calls Try.prog 12 #[.agg #[.slice SA S.length SC, .slice NA N.length NC], .agg #[.int .i64 ex, .int .i64 ey, .int .i64 ez], .slice OA O.length OC] w fun e_ w' => e_ = .returned (.int .i64 1) ∧ Below w.heap.size w w' := by
  have C1 := Lib.hid (fun W (a : SvS W NA N) (c : BdS W SA S) => scvalid_is SA SC S NA NC N hs true (by simp [h1]) W a c)
  have C2 := Lib.hid (fun W => vvalid_is ex ey ez true h2 W)
  have C3 := Lib.hid (fun W (a : BdS W OA O) => abz_is OA OC O (by omega) true (by simp [h3]) W a)
  have C4 := Lib.hid (fun W (a : SvS W NA N) => ats_is ex ey ez SA SC S NA NC N hs true (iff_of_false (by decide) h4) W a)
  clear hs h1 h2 h3 h4
  have HN := Lib.hid hn
  clear hn
  have HM := Lib.hid hm
  clear hm
  have HO := Lib.hid ho
  clear ho
  have p0 : World.cell? ((w.alloc (.cells #[.slice SA S.length SC, .slice NA N.length NC] 25)).alloc (.cells #[.int .i64 ex, .int .i64 ey, .int .i64 ez] 27)) ⟨w.heap.size, 0, none⟩ = some (.slice SA S.length SC) := by simp [go_sem]
  have p1 : World.cell? ((w.alloc (.cells #[.slice SA S.length SC, .slice NA N.length NC] 25)).alloc (.cells #[.int .i64 ex, .int .i64 ey, .int .i64 ez] 27)) ⟨w.heap.size, 1, none⟩ = some (.slice NA N.length NC) := by simp [go_sem]
  have lp : w.heap.size < ((w.alloc (.cells #[.slice SA S.length SC, .slice NA N.length NC] 25)).alloc (.cells #[.int .i64 ex, .int .i64 ey, .int .i64 ez] 27)).heap.size := by simp <;> omega
  have q0 : World.cell? ((w.alloc (.cells #[.slice SA S.length SC, .slice NA N.length NC] 25)).alloc (.cells #[.int .i64 ex, .int .i64 ey, .int .i64 ez] 27)) ⟨w.heap.size + 1, 0, none⟩ = some (.int .i64 ex) := by simp [go_sem]
  have q1 : World.cell? ((w.alloc (.cells #[.slice SA S.length SC, .slice NA N.length NC] 25)).alloc (.cells #[.int .i64 ex, .int .i64 ey, .int .i64 ez] 27)) ⟨w.heap.size + 1, 1, none⟩ = some (.int .i64 ey) := by simp [go_sem]
  have q2 : World.cell? ((w.alloc (.cells #[.slice SA S.length SC, .slice NA N.length NC] 25)).alloc (.cells #[.int .i64 ex, .int .i64 ey, .int .i64 ez] 27)) ⟨w.heap.size + 1, 2, none⟩ = some (.int .i64 ez) := by simp [go_sem]
  have lq : w.heap.size + 1 < ((w.alloc (.cells #[.slice SA S.length SC, .slice NA N.length NC] 25)).alloc (.cells #[.int .i64 ex, .int .i64 ey, .int .i64 ez] 27)).heap.size := by simp <;> omega
  have HB := Lib.hid (show Below w.heap.size w ((w.alloc (.cells #[.slice SA S.length SC, .slice NA N.length NC] 25)).alloc (.cells #[.int .i64 ex, .int .i64 ey, .int .i64 ez] 27)) from (((Below.refl _ _).alloc (by simp <;> omega) _).alloc (by simp <;> omega) _))
  go_enter Try.func12, Try.ntmps12
  go_upto_region 1 with fail
  generalize (w.alloc (.cells #[.slice SA S.length SC, .slice NA N.length NC] 25)).alloc (.cells #[.int .i64 ex, .int .i64 ey, .int .i64 ez] 27) = w1 at *
  replace HN := Lib.hid (HN.out.below HB.out)
  replace HM := Lib.hid (HM.out.below HB.out)
  replace HO := Lib.hid (HO.out.below HB.out)
  go_wp2_with fail
  with_reducible refine (C1.out _ HN.out HM.out).mono ?_
  rintro e_ w2 ⟨rfl, hb⟩
  replace HB := Lib.hid (on_below HB.out hb)
  replace HN := Lib.hid (HN.out.below hb)
  replace HM := Lib.hid (HM.out.below hb)
  replace HO := Lib.hid (HO.out.below hb)
  replace p0 := keepc hb p0
  replace p1 := keepc hb p1
  replace q0 := keepc hb q0
  replace q1 := keepc hb q1
  replace q2 := keepc hb q2
  replace lp := Nat.lt_of_lt_of_le lp hb.size
  replace lq := Nat.lt_of_lt_of_le lq hb.size
  clear hb
  go_wp2_with fail
  with_reducible refine (C2.out _).mono ?_
  rintro e_ w3 ⟨rfl, hb⟩
  replace HB := Lib.hid (on_below HB.out hb)
  replace HN := Lib.hid (HN.out.below hb)
  replace HM := Lib.hid (HM.out.below hb)
  replace HO := Lib.hid (HO.out.below hb)
  replace p0 := keepc hb p0
  replace p1 := keepc hb p1
  replace q0 := keepc hb q0
  replace q1 := keepc hb q1
  replace q2 := keepc hb q2
  replace lp := Nat.lt_of_lt_of_le lp hb.size
  replace lq := Nat.lt_of_lt_of_le lq hb.size
  clear hb
  go_wp2_with fail
  with_reducible refine (C3.out _ HO.out).mono ?_
  rintro e_ w4 ⟨rfl, hb⟩
  replace HB := Lib.hid (on_below HB.out hb)
  replace HN := Lib.hid (HN.out.below hb)
  replace HM := Lib.hid (HM.out.below hb)
  replace HO := Lib.hid (HO.out.below hb)
  replace p0 := keepc hb p0
  replace p1 := keepc hb p1
  replace q0 := keepc hb q0
  replace q1 := keepc hb q1
  replace q2 := keepc hb q2
  replace lp := Nat.lt_of_lt_of_le lp hb.size
  replace lq := Nat.lt_of_lt_of_le lq hb.size
  clear hb
  go_wp2_with fail
  with_reducible refine (C4.out _ HN.out).mono ?_
  rintro e_ w5 ⟨rfl, hb⟩
  replace HB := Lib.hid (on_below HB.out hb)
  replace HN := Lib.hid (HN.out.below hb)
  replace HM := Lib.hid (HM.out.below hb)
  replace HO := Lib.hid (HO.out.below hb)
  replace p0 := keepc hb p0
  replace p1 := keepc hb p1
  replace q0 := keepc hb q0
  replace q1 := keepc hb q1
  replace q2 := keepc hb q2
  replace lp := Nat.lt_of_lt_of_le lp hb.size
  replace lq := Nat.lt_of_lt_of_le lq hb.size
  clear hb
  go_wp2_with fail
  go_ret
  exact ⟨rfl, HB.out⟩
set_option maxRecDepth 100000 in
set_option maxHeartbeats 2000000 in
theorem er_5 (SA : Option Addr) (SC : Nat) (S : List Bv) (NA : Option Addr) (NC : Nat) (N : List Sv) (ex ey ez : Int) (OA : Option Addr) (OC : Nat) (O : List Bv) (hs : Sml S N) (ho0 : O.length ≤ 1000) (h1 : Pok S N) (h2 : vv ex ey ez = true) (h3 : Bds O) (h4 : (∀ k, k < N.length → Eyo ex ey ez (gdV N k).ts)) (h5 : ¬ Lim S.length O.length N) (w : World) (hn : SvS w NA N) (hm : BdS w SA S) (ho : BdS w OA O) :
    Calls Try.prog 12 #[.agg #[.slice SA S.length SC, .slice NA N.length NC], .agg #[.int .i64 ex, .int .i64 ey, .int .i64 ez], .slice OA O.length OC] w fun e_ w' => e_ = .returned (.int .i64 2) ∧ Below w.heap.size w w' := by
  have C1 := Lib.hid (fun W (a : SvS W NA N) (c : BdS W SA S) => scvalid_is SA SC S NA NC N hs true (by simp [h1]) W a c)
  have C2 := Lib.hid (fun W => vvalid_is ex ey ez true h2 W)
  have C3 := Lib.hid (fun W (a : BdS W OA O) => abz_is OA OC O (by omega) true (by simp [h3]) W a)
  have C4 := Lib.hid (fun W (a : SvS W NA N) => ats_is ex ey ez SA SC S NA NC N hs false (iff_of_true rfl h4) W a)
  have C5 := Lib.hid (fun W (a : SvS W NA N) => tmb_is SA SC S NA NC N OA OC O hs ho0 true (iff_of_false (by decide) h5) W a)
  clear hs h1 h2 h3 h4 h5
  have HN := Lib.hid hn
  clear hn
  have HM := Lib.hid hm
  clear hm
  have HO := Lib.hid ho
  clear ho
  have p0 : World.cell? ((w.alloc (.cells #[.slice SA S.length SC, .slice NA N.length NC] 25)).alloc (.cells #[.int .i64 ex, .int .i64 ey, .int .i64 ez] 27)) ⟨w.heap.size, 0, none⟩ = some (.slice SA S.length SC) := by simp [go_sem]
  have p1 : World.cell? ((w.alloc (.cells #[.slice SA S.length SC, .slice NA N.length NC] 25)).alloc (.cells #[.int .i64 ex, .int .i64 ey, .int .i64 ez] 27)) ⟨w.heap.size, 1, none⟩ = some (.slice NA N.length NC) := by simp [go_sem]
  have lp : w.heap.size < ((w.alloc (.cells #[.slice SA S.length SC, .slice NA N.length NC] 25)).alloc (.cells #[.int .i64 ex, .int .i64 ey, .int .i64 ez] 27)).heap.size := by simp <;> omega
  have q0 : World.cell? ((w.alloc (.cells #[.slice SA S.length SC, .slice NA N.length NC] 25)).alloc (.cells #[.int .i64 ex, .int .i64 ey, .int .i64 ez] 27)) ⟨w.heap.size + 1, 0, none⟩ = some (.int .i64 ex) := by simp [go_sem]
  have q1 : World.cell? ((w.alloc (.cells #[.slice SA S.length SC, .slice NA N.length NC] 25)).alloc (.cells #[.int .i64 ex, .int .i64 ey, .int .i64 ez] 27)) ⟨w.heap.size + 1, 1, none⟩ = some (.int .i64 ey) := by simp [go_sem]
  have q2 : World.cell? ((w.alloc (.cells #[.slice SA S.length SC, .slice NA N.length NC] 25)).alloc (.cells #[.int .i64 ex, .int .i64 ey, .int .i64 ez] 27)) ⟨w.heap.size + 1, 2, none⟩ = some (.int .i64 ez) := by simp [go_sem]
  have lq : w.heap.size + 1 < ((w.alloc (.cells #[.slice SA S.length SC, .slice NA N.length NC] 25)).alloc (.cells #[.int .i64 ex, .int .i64 ey, .int .i64 ez] 27)).heap.size := by simp <;> omega
  have HB := Lib.hid (show Below w.heap.size w ((w.alloc (.cells #[.slice SA S.length SC, .slice NA N.length NC] 25)).alloc (.cells #[.int .i64 ex, .int .i64 ey, .int .i64 ez] 27)) from (((Below.refl _ _).alloc (by simp <;> omega) _).alloc (by simp <;> omega) _))
  go_enter Try.func12, Try.ntmps12
  go_upto_region 1 with fail
  generalize (w.alloc (.cells #[.slice SA S.length SC, .slice NA N.length NC] 25)).alloc (.cells #[.int .i64 ex, .int .i64 ey, .int .i64 ez] 27) = w1 at *
  replace HN := Lib.hid (HN.out.below HB.out)
  replace HM := Lib.hid (HM.out.below HB.out)
  replace HO := Lib.hid (HO.out.below HB.out)
  go_wp2_with fail
  with_reducible refine (C1.out _ HN.out HM.out).mono ?_
  rintro e_ w2 ⟨rfl, hb⟩
  replace HB := Lib.hid (on_below HB.out hb)
  replace HN := Lib.hid (HN.out.below hb)
  replace HM := Lib.hid (HM.out.below hb)
  replace HO := Lib.hid (HO.out.below hb)
  replace p0 := keepc hb p0
  replace p1 := keepc hb p1
  replace q0 := keepc hb q0
  replace q1 := keepc hb q1
  replace q2 := keepc hb q2
  replace lp := Nat.lt_of_lt_of_le lp hb.size
  replace lq := Nat.lt_of_lt_of_le lq hb.size
  clear hb
  go_wp2_with fail
  with_reducible refine (C2.out _).mono ?_
  rintro e_ w3 ⟨rfl, hb⟩
  replace HB := Lib.hid (on_below HB.out hb)
  replace HN := Lib.hid (HN.out.below hb)
  replace HM := Lib.hid (HM.out.below hb)
  replace HO := Lib.hid (HO.out.below hb)
  replace p0 := keepc hb p0
  replace p1 := keepc hb p1
  replace q0 := keepc hb q0
  replace q1 := keepc hb q1
  replace q2 := keepc hb q2
  replace lp := Nat.lt_of_lt_of_le lp hb.size
  replace lq := Nat.lt_of_lt_of_le lq hb.size
  clear hb
  go_wp2_with fail
  with_reducible refine (C3.out _ HO.out).mono ?_
  rintro e_ w4 ⟨rfl, hb⟩
  replace HB := Lib.hid (on_below HB.out hb)
  replace HN := Lib.hid (HN.out.below hb)
  replace HM := Lib.hid (HM.out.below hb)
  replace HO := Lib.hid (HO.out.below hb)
  replace p0 := keepc hb p0
  replace p1 := keepc hb p1
  replace q0 := keepc hb q0
  replace q1 := keepc hb q1
  replace q2 := keepc hb q2
  replace lp := Nat.lt_of_lt_of_le lp hb.size
  replace lq := Nat.lt_of_lt_of_le lq hb.size
  clear hb
  go_wp2_with fail
  with_reducible refine (C4.out _ HN.out).mono ?_
  rintro e_ w5 ⟨rfl, hb⟩
  replace HB := Lib.hid (on_below HB.out hb)
  replace HN := Lib.hid (HN.out.below hb)
  replace HM := Lib.hid (HM.out.below hb)
  replace HO := Lib.hid (HO.out.below hb)
  replace p0 := keepc hb p0
  replace p1 := keepc hb p1
  replace q0 := keepc hb q0
  replace q1 := keepc hb q1
  replace q2 := keepc hb q2
  replace lp := Nat.lt_of_lt_of_le lp hb.size
  replace lq := Nat.lt_of_lt_of_le lq hb.size
  clear hb
  go_wp2_with fail
  with_reducible refine (C5.out _ HN.out).mono ?_
  rintro e_ w6 ⟨rfl, hb⟩
  replace HB := Lib.hid (on_below HB.out hb)
  replace HN := Lib.hid (HN.out.below hb)
  replace HM := Lib.hid (HM.out.below hb)
  replace HO := Lib.hid (HO.out.below hb)
  replace p0 := keepc hb p0
  replace p1 := keepc hb p1
  replace q0 := keepc hb q0
  replace q1 := keepc hb q1
  replace q2 := keepc hb q2
  replace lp := Nat.lt_of_lt_of_le lp hb.size
  replace lq := Nat.lt_of_lt_of_le lq hb.size
  clear hb
  go_wp2_with fail
  go_ret
  exact ⟨rfl, HB.out⟩
set_option maxRecDepth 100000 in
set_option maxHeartbeats 2000000 in
theorem er_6 (SA : Option Addr) (SC : Nat) (S : List Bv) (NA : Option Addr) (NC : Nat) (N : List Sv) (ex ey ez : Int) (OA : Option Addr) (OC : Nat) (O : List Bv) (hs : Sml S N) (ho0 : O.length ≤ 1000) (h1 : Pok S N) (h2 : vv ex ey ez = true) (h3 : Bds O) (h4 : (∀ k, k < N.length → Eyo ex ey ez (gdV N k).ts)) (h5 : Lim S.length O.length N) (w : World) (hn : SvS w NA N) (hm : BdS w SA S) (ho : BdS w OA O) :
    Calls Try.prog 12 #[.agg #[.slice SA S.length SC, .slice NA N.length NC], .agg #[.int .i64 ex, .int .i64 ey, .int .i64 ez], .slice OA O.length OC] w fun e_ w' => e_ = .returned (.int .i64 0) ∧ Below w.heap.size w w' := by
  have C1 := Lib.hid (fun W (a : SvS W NA N) (c : BdS W SA S) => scvalid_is SA SC S NA NC N hs true (by simp [h1]) W a c)
  have C2 := Lib.hid (fun W => vvalid_is ex ey ez true h2 W)
  have C3 := Lib.hid (fun W (a : BdS W OA O) => abz_is OA OC O (by omega) true (by simp [h3]) W a)
  have C4 := Lib.hid (fun W (a : SvS W NA N) => ats_is ex ey ez SA SC S NA NC N hs false (iff_of_true rfl h4) W a)
  have C5 := Lib.hid (fun W (a : SvS W NA N) => tmb_is SA SC S NA NC N OA OC O hs ho0 false (iff_of_true rfl h5) W a)
  clear hs h1 h2 h3 h4 h5
  have HN := Lib.hid hn
  clear hn
  have HM := Lib.hid hm
  clear hm
  have HO := Lib.hid ho
  clear ho
  have p0 : World.cell? ((w.alloc (.cells #[.slice SA S.length SC, .slice NA N.length NC] 25)).alloc (.cells #[.int .i64 ex, .int .i64 ey, .int .i64 ez] 27)) ⟨w.heap.size, 0, none⟩ = some (.slice SA S.length SC) := by simp [go_sem]
  have p1 : World.cell? ((w.alloc (.cells #[.slice SA S.length SC, .slice NA N.length NC] 25)).alloc (.cells #[.int .i64 ex, .int .i64 ey, .int .i64 ez] 27)) ⟨w.heap.size, 1, none⟩ = some (.slice NA N.length NC) := by simp [go_sem]
  have lp : w.heap.size < ((w.alloc (.cells #[.slice SA S.length SC, .slice NA N.length NC] 25)).alloc (.cells #[.int .i64 ex, .int .i64 ey, .int .i64 ez] 27)).heap.size := by simp <;> omega
  have q0 : World.cell? ((w.alloc (.cells #[.slice SA S.length SC, .slice NA N.length NC] 25)).alloc (.cells #[.int .i64 ex, .int .i64 ey, .int .i64 ez] 27)) ⟨w.heap.size + 1, 0, none⟩ = some (.int .i64 ex) := by simp [go_sem]
  have q1 : World.cell? ((w.alloc (.cells #[.slice SA S.length SC, .slice NA N.length NC] 25)).alloc (.cells #[.int .i64 ex, .int .i64 ey, .int .i64 ez] 27)) ⟨w.heap.size + 1, 1, none⟩ = some (.int .i64 ey) := by simp [go_sem]
  have q2 : World.cell? ((w.alloc (.cells #[.slice SA S.length SC, .slice NA N.length NC] 25)).alloc (.cells #[.int .i64 ex, .int .i64 ey, .int .i64 ez] 27)) ⟨w.heap.size + 1, 2, none⟩ = some (.int .i64 ez) := by simp [go_sem]
  have lq : w.heap.size + 1 < ((w.alloc (.cells #[.slice SA S.length SC, .slice NA N.length NC] 25)).alloc (.cells #[.int .i64 ex, .int .i64 ey, .int .i64 ez] 27)).heap.size := by simp <;> omega
  have HB := Lib.hid (show Below w.heap.size w ((w.alloc (.cells #[.slice SA S.length SC, .slice NA N.length NC] 25)).alloc (.cells #[.int .i64 ex, .int .i64 ey, .int .i64 ez] 27)) from (((Below.refl _ _).alloc (by simp <;> omega) _).alloc (by simp <;> omega) _))
  go_enter Try.func12, Try.ntmps12
  go_upto_region 1 with fail
  generalize (w.alloc (.cells #[.slice SA S.length SC, .slice NA N.length NC] 25)).alloc (.cells #[.int .i64 ex, .int .i64 ey, .int .i64 ez] 27) = w1 at *
  replace HN := Lib.hid (HN.out.below HB.out)
  replace HM := Lib.hid (HM.out.below HB.out)
  replace HO := Lib.hid (HO.out.below HB.out)
  go_wp2_with fail
  with_reducible refine (C1.out _ HN.out HM.out).mono ?_
  rintro e_ w2 ⟨rfl, hb⟩
  replace HB := Lib.hid (on_below HB.out hb)
  replace HN := Lib.hid (HN.out.below hb)
  replace HM := Lib.hid (HM.out.below hb)
  replace HO := Lib.hid (HO.out.below hb)
  replace p0 := keepc hb p0
  replace p1 := keepc hb p1
  replace q0 := keepc hb q0
  replace q1 := keepc hb q1
  replace q2 := keepc hb q2
  replace lp := Nat.lt_of_lt_of_le lp hb.size
  replace lq := Nat.lt_of_lt_of_le lq hb.size
  clear hb
  go_wp2_with fail
  with_reducible refine (C2.out _).mono ?_
  rintro e_ w3 ⟨rfl, hb⟩
  replace HB := Lib.hid (on_below HB.out hb)
  replace HN := Lib.hid (HN.out.below hb)
  replace HM := Lib.hid (HM.out.below hb)
  replace HO := Lib.hid (HO.out.below hb)
  replace p0 := keepc hb p0
  replace p1 := keepc hb p1
  replace q0 := keepc hb q0
  replace q1 := keepc hb q1
  replace q2 := keepc hb q2
  replace lp := Nat.lt_of_lt_of_le lp hb.size
  replace lq := Nat.lt_of_lt_of_le lq hb.size
  clear hb
  go_wp2_with fail
  with_reducible refine (C3.out _ HO.out).mono ?_
  rintro e_ w4 ⟨rfl, hb⟩
  replace HB := Lib.hid (on_below HB.out hb)
  replace HN := Lib.hid (HN.out.below hb)
  replace HM := Lib.hid (HM.out.below hb)
  replace HO := Lib.hid (HO.out.below hb)
  replace p0 := keepc hb p0
  replace p1 := keepc hb p1
  replace q0 := keepc hb q0
  replace q1 := keepc hb q1
  replace q2 := keepc hb q2
  replace lp := Nat.lt_of_lt_of_le lp hb.size
  replace lq := Nat.lt_of_lt_of_le lq hb.size
  clear hb
  go_wp2_with fail
  with_reducible refine (C4.out _ HN.out).mono ?_
  rintro e_ w5 ⟨rfl, hb⟩
  replace HB := Lib.hid (on_below HB.out hb)
  replace HN := Lib.hid (HN.out.below hb)
  replace HM := Lib.hid (HM.out.below hb)
  replace HO := Lib.hid (HO.out.below hb)
  replace p0 := keepc hb p0
  replace p1 := keepc hb p1
  replace q0 := keepc hb q0
  replace q1 := keepc hb q1
  replace q2 := keepc hb q2
  replace lp := Nat.lt_of_lt_of_le lp hb.size
  replace lq := Nat.lt_of_lt_of_le lq hb.size
  clear hb
  go_wp2_with fail
  with_reducible refine (C5.out _ HN.out).mono ?_
  rintro e_ w6 ⟨rfl, hb⟩
  replace HB := Lib.hid (on_below HB.out hb)
  replace HN := Lib.hid (HN.out.below hb)
  replace HM := Lib.hid (HM.out.below hb)
  replace HO := Lib.hid (HO.out.below hb)
  replace p0 := keepc hb p0
  replace p1 := keepc hb p1
  replace q0 := keepc hb q0
  replace q1 := keepc hb q1
  replace q2 := keepc hb q2
  replace lp := Nat.lt_of_lt_of_le lp hb.size
  replace lq := Nat.lt_of_lt_of_le lq hb.size
  clear hb
  go_wp2_with fail
  go_ret
  exact ⟨rfl, HB.out⟩
theorem err_is (SA : Option Addr) (SC : Nat) (S : List Bv) (NA : Option Addr) (NC : Nat) (N : List Sv) (ex ey ez : Int) (OA : Option Addr) (OC : Nat) (O : List Bv) (hs : Sml S N) (ho0 : O.length ≤ 1000) (E : Int) (hE : ScE S N ex ey ez O E) (w : World) (hn : SvS w NA N) (hm : BdS w SA S) (ho : BdS w OA O) :
    Calls Try.prog 12 #[.agg #[.slice SA S.length SC, .slice NA N.length NC], .agg #[.int .i64 ex, .int .i64 ey, .int .i64 ez], .slice OA O.length OC] w fun e_ w' => e_ = .returned (.int .i64 E) ∧ Below w.heap.size w w' := by
  have ok : Pok S N → vv ex ey ez = true → Bds O → (∀ k, k < N.length → Eyo ex ey ez (gdV N k).ts) → Ok3 S N ex ey ez O := fun a b c d => ⟨a, vv_iff.1 b, c, d⟩
  by_cases h1 : Pok S N
  · cases h2 : vv ex ey ez
    · obtain rfl : 1 = E := sce_fun (Or.inl ⟨(fun h => by have := vv_iff.2 h.2.1; rw [h2] at this; cases this), rfl⟩) hE
      exact er_2 SA SC S NA NC N ex ey ez OA OC O hs ho0 h1 h2 w hn hm ho
    · by_cases h3 : Bds O
      · by_cases h4 : (∀ k, k < N.length → Eyo ex ey ez (gdV N k).ts)
        · by_cases h5 : Lim S.length O.length N
          · obtain rfl : 0 = E := sce_fun (Or.inr (Or.inr ⟨ok h1 h2 h3 h4, h5, rfl⟩)) hE
            exact er_6 SA SC S NA NC N ex ey ez OA OC O hs ho0 h1 h2 h3 h4 h5 w hn hm ho
          · obtain rfl : 2 = E := sce_fun (Or.inr (Or.inl ⟨ok h1 h2 h3 h4, h5, rfl⟩)) hE
            exact er_5 SA SC S NA NC N ex ey ez OA OC O hs ho0 h1 h2 h3 h4 h5 w hn hm ho
        · obtain rfl : 1 = E := sce_fun (Or.inl ⟨fun h => h4 h.2.2.2, rfl⟩) hE
          exact er_4 SA SC S NA NC N ex ey ez OA OC O hs ho0 h1 h2 h3 h4 w hn hm ho
      · obtain rfl : 1 = E := sce_fun (Or.inl ⟨fun h => h3 h.2.2.1, rfl⟩) hE
        exact er_3 SA SC S NA NC N ex ey ez OA OC O hs ho0 h1 h2 h3 w hn hm ho
  · obtain rfl : 1 = E := sce_fun (Or.inl ⟨fun h => h1 h.1, rfl⟩) hE
    exact er_1 SA SC S NA NC N ex ey ez OA OC O hs ho0 h1 w hn hm ho
theorem shs_any (SA : Option Addr) (sl SC : Nat) (NA : Option Addr) (nl NC : Nat) (ex ey ez : Int) (OA : Option Addr) (ol OC : Nat) (w : World) :
    Calls Try.prog 14 #[.agg #[.slice SA sl SC, .slice NA nl NC], .agg #[.int .i64 ex, .int .i64 ey, .int .i64 ez], .slice OA ol OC] w fun e_ w' => e_ = .returned (.func (.func 28) #[] #[.pointer (some ⟨w.heap.size, 0, none⟩), .pointer (some ⟨w.heap.size + 1, 0, none⟩), .pointer (some ⟨w.heap.size + 1 + 1, 0, none⟩)]) ∧
      w' = ((w.alloc (.cells #[.slice SA sl SC, .slice NA nl NC] 25)).alloc (.cells #[.int .i64 ex, .int .i64 ey, .int .i64 ez] 27)).alloc (.cells #[.slice OA ol OC] 22) := by
  go_enter Try.func14, Try.ntmps14
  go_wp2
  go_ret
  exact ⟨rfl, rfl⟩
theorem shs_enter (args : Array Value) (W : World) : (callFunc 28 args).run Try.prog W = .ok (.enter 28 args) W := by simp [go_sem]
/-- The lists joined so far. -/
def jn (S B O : List Bv) : Nat → List Bv
  | 0 => []
  | 1 => S
  | 2 => S ++ B
  | _ => S ++ B ++ O
theorem sls_apz {w : World} {B : Option Addr} {L M : List Bv} (h : ∀ i, i < L.length → SlS w (gdB L i).A (gdB L i).xs) (k : BdS w B M) : ∀ i, i < (L ++ M).length → SlS w (gdB (L ++ M) i).A (gdB (L ++ M) i).xs := by
  intro i hi
  by_cases hl : i < L.length
  · rw [gdB_app_l hl]; exact h i hl
  · rw [List.length_append] at hi
    obtain ⟨_, _, _, _, _, _, hs⟩ := k (i - L.length) (by omega)
    rw [gdB_app_r hl]; exact hs
theorem bds_sls {w : World} {A : Option Addr} {L : List Bv} (h : BdS w A L) : ∀ i, i < L.length → SlS w (gdB L i).A (gdB L i).xs := fun i hi => by
  obtain ⟨_, _, _, _, _, _, hs⟩ := h i hi; exact hs
theorem app_rowL {u : World} {Bx : Nat} {e : TypeId} {v : Value} {L M K : List Bv} (h : u.ownsRow Bx e 3 v (L.length + M.length) (flt bvc L ++ flt bvc M)) (hM : L ++ M = K) : u.ownsRow Bx e 3 v K.length (flt bvc K) := by
  subst hM
  rw [List.length_append, ← flt_app]
  exact h
set_option maxRecDepth 100000 in
set_option maxHeartbeats 4000000 in
theorem joined_is (g : Nat) (SA : Option Addr) (SC : Nat) (S : List Bv) (BA : Option Addr) (BC : Nat) (B : List Bv) (OA : Option Addr) (OC : Nat) (O : List Bv) (h1 : S.length ≤ 1000) (h2 : B.length ≤ 1000) (h3 : O.length ≤ 1000) (w : World) (hs : BdS w SA S) (hb : BdS w BA B) (ho : BdS w OA O)
    (c0 : w.cell? ⟨g, 0, none⟩ = some (.slice SA S.length SC)) (c1 : w.cell? ⟨g, 1, none⟩ = some (.slice BA B.length BC)) (c2 : w.cell? ⟨g, 2, none⟩ = some (.slice OA O.length OC)) (J : List Bv) (hJ : S ++ B ++ O = J) :
    Calls Try.prog 30 #[.slice (some ⟨g, 0, none⟩) 3 3] w fun e_ w' => ∃ A, (∃ C, e_ = .returned (.slice A J.length C)) ∧ BdS w' A J ∧ Below w.heap.size w w' := by
  have HX := Lib.hid hs
  clear hs
  have HY := Lib.hid hb
  clear hb
  have HZ := Lib.hid ho
  clear ho
  obtain ⟨i0, hi0, hz0, hz1, hz2⟩ := info_of (show (Try.prog.info? 46).map (fun i => (i.zero, i.size, i.bytes)) = some (some (.agg #[.slice none 0 0, .int .i64 0, .int .i64 0]), 3, 40) by kernel_rfl)
  go_enter Try.func30, Try.ntmps30
  go_wp2_with fail
  go_loopw [3, 8] (fun v i wr => ∃ k : Nat, ((k = 0 ∧ i = .int .i64 0) ∨ (k = 1 ∧ i = .int .i64 1) ∨ (k = 2 ∧ i = .int .i64 2) ∨ (k = 3 ∧ i = .int .i64 3)) ∧ Hid (wr.ownsRow w.heap.size 46 3 v (jn S B O k).length (flt bvc (jn S B O k))) ∧ Below w.heap.size w wr) (fun _ i _ => 3 - (intOf i).toNat)
  case atStart => exact ⟨0, Or.inl ⟨rfl, rfl⟩, World.ownsRow_nil _ _ _ _, Below.refl _ _⟩
  case round =>
    obtain ⟨k, hki, HO, hW⟩ := hrel
    rcases hki with ⟨rfl, rfl⟩ | ⟨rfl, rfl⟩ | ⟨rfl, rfl⟩ | ⟨rfl, rfl⟩
    · have e0 := keepc hW c0
      have HS := Lib.hid (HX.out.below hW)
      have HW := Lib.hid hW
      have HOW := HO
      clear hW HO
      go_wp2_with (at_builtin; refine wpList_app _ rfl (.tmp 12) (.tmp 13) 22 rfl w.heap.size 46 i0 _ 3 40 Try.underlying22 hi0 hz0 hz1 hz2 rfl (by omega) _ _ _ rfl HOW.out SA S.length SC (flt bvc S) rfl (flt_len bvc_len S) (bds_src HS.out) (flt_one bvc_one S) (by simp [jn, maxLen]; omega) (by simp [jn]; omega) HW.out.size ?_; intro v1 uw1 own1_ gr1; have hb1 := app_below HW.out HW.out.size HOW.out (Nat.le_refl _) gr1; have own1 := app_rowL own1_ (show jn S B O 0 ++ S = jn S B O (0 + 1) by first | rfl | simp [jn]); clear gr1 own1_)
      go_roundw
      case rel => exact ⟨0 + 1, Or.inr (Or.inl ⟨rfl, rfl⟩), own1, hb1⟩
      case measure => simp [intOf]
    · have e0 := keepc hW c1
      have HS := Lib.hid (HY.out.below hW)
      have HW := Lib.hid hW
      have HOW := HO
      clear hW HO
      go_wp2_with (at_builtin; refine wpList_app _ rfl (.tmp 12) (.tmp 13) 22 rfl w.heap.size 46 i0 _ 3 40 Try.underlying22 hi0 hz0 hz1 hz2 rfl (by omega) _ _ _ rfl HOW.out BA B.length BC (flt bvc B) rfl (flt_len bvc_len B) (bds_src HS.out) (flt_one bvc_one B) (by simp [jn, maxLen]; omega) (by simp [jn]; omega) HW.out.size ?_; intro v1 uw1 own1_ gr1; have hb1 := app_below HW.out HW.out.size HOW.out (Nat.le_refl _) gr1; have own1 := app_rowL own1_ (show jn S B O 1 ++ B = jn S B O (1 + 1) by first | rfl | simp [jn]); clear gr1 own1_)
      go_roundw
      case rel => exact ⟨1 + 1, Or.inr (Or.inr (Or.inl ⟨rfl, rfl⟩)), own1, hb1⟩
      case measure => simp [intOf]
    · have e0 := keepc hW c2
      have HS := Lib.hid (HZ.out.below hW)
      have HW := Lib.hid hW
      have HOW := HO
      clear hW HO
      go_wp2_with (at_builtin; refine wpList_app _ rfl (.tmp 12) (.tmp 13) 22 rfl w.heap.size 46 i0 _ 3 40 Try.underlying22 hi0 hz0 hz1 hz2 rfl (by omega) _ _ _ rfl HOW.out OA O.length OC (flt bvc O) rfl (flt_len bvc_len O) (bds_src HS.out) (flt_one bvc_one O) (by simp [jn, maxLen]; omega) (by simp [jn]; omega) HW.out.size ?_; intro v1 uw1 own1_ gr1; have hb1 := app_below HW.out HW.out.size HOW.out (Nat.le_refl _) gr1; have own1 := app_rowL own1_ (show jn S B O 2 ++ O = jn S B O (2 + 1) by first | rfl | simp [jn]); clear gr1 own1_)
      go_roundw
      case rel => exact ⟨2 + 1, Or.inr (Or.inr (Or.inr (⟨rfl, rfl⟩))), own1, hb1⟩
      case measure => simp [intOf]
    · have HS := Lib.hid (sls_apz (sls_apz (bds_sls (HX.out.below hW)) (HY.out.below hW)) (HZ.out.below hW))
      obtain ⟨A, C, rfl, _, _, _, hxs⟩ := own_bds HO.out HS.out
      clear HO HS
      have e3 : jn S B O 3 = J := hJ
      rw [e3] at hxs ⊢
      clear e3 hJ
      go_wp2_with fail
      go_ret
      first | exact ⟨A, ⟨C, rfl⟩, hxs, hW⟩ | exact ⟨A, hxs, hW⟩
end Go.Proofs.Ytiffgcipdamngaa
