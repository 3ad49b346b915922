/-
  SightCertificates.
-/
import Derived.Test.YtehlplejcaofoaaSgtZD
import Derived.Test.YtehlplejcaofoaaSgtZE
import Derived.Test.YtehlplejcaofoaaSgtZV
import Derived.Test.YtehlplejcaofoaaRows
import Derived.ProofKit
import Derived.OpenShut
import Derived.Deep.DeepHandedRow
import Derived.Deep.DeepWitnessRowRef
import Derived.MakeChecks
import Derived.Deep.DeepCutAuto
namespace Go.Proofs.Ytehlplejcaofoaa.LawCert
open Go.RowKit Go.Sort
open Go.RowKit (Below)
set_option linter.unusedVariables false
set_option linter.unusedSimpArgs false
attribute [local go_sem] Oper.semAt_some

set_option maxRecDepth 100000 in
set_option maxHeartbeats 4000000 in
theorem cert_0 (ex ey ez : Int) (tA : Option Addr) (tC : Nat) (t : List Q4) (bA : Option Addr) (bC : Nat) (b : List Bv) (nA : Option Addr) (nC : Nat) (n : List Q4) (h4 : t.length ≤ 9223372036854775807) (h5 : b.length ≤ 9223372036854775807) (h7 : n.length ≤ 9223372036854775807) (h6 : ∀ k, k < b.length → (gdB b k).xs.length ≤ 9223372036854775807) (hf : ¬ Few t.length b) (w : World) (ht : S4 w tA t) (hm : BdS w bA b) (hn : S4 w nA n) :
    Calls Try.prog 6 #[.agg #[.int .i64 ex, .int .i64 ey, .int .i64 ez], .slice tA t.length tC, .slice bA b.length bC, .slice nA n.length nC] w fun e_ w' => e_ = .returned (.bool true) ∧ Below w.heap.size w w' := by
  have HF := Lib.hid (fun W (h : BdS W bA b) => few9_is tA tC t bA bC b h4 h5 h6 false (by simp [hf]) W h)
  have HT := Lib.hid ht
  clear ht
  have HM := Lib.hid hm
  clear hm
  have HN := Lib.hid hn
  clear hn
  go_enter Try.func6, Try.ntmps6
  go_wp2_with fail
  obtain ⟨w1, hw1⟩ : ∃ V, (w.alloc (.cells #[.int .i64 ex, .int .i64 ey, .int .i64 ez] 26)) = V := ⟨_, rfl⟩
  obtain ⟨hB_, kp⟩ := boxes1 _ _ hw1
  rw [hw1]
  clear hw1
  have HB := Lib.hid hB_
  clear hB_
  have p0 := (cells3 kp).1
  have p1 := (cells3 kp).2.1
  have p2 := (cells3 kp).2.2
  have lp := block_lt p0
  replace HT := Lib.hid (HT.out.below HB.out)
  replace HM := Lib.hid (HM.out.below HB.out)
  replace HN := Lib.hid (HN.out.below HB.out)
  with_reducible refine (head9_any _).mono ?_
  rintro e_ w2 ⟨rfl, hb⟩
  replace HB := Lib.hid (on_below HB.out hb)
  replace HT := Lib.hid (HT.out.below hb)
  replace HM := Lib.hid (HM.out.below hb)
  replace HN := Lib.hid (HN.out.below hb)
  replace p0 := keepc hb p0
  replace p1 := keepc hb p1
  replace p2 := keepc hb p2
  replace kp := blk_on kp hb
  replace lp := Nat.lt_of_lt_of_le lp hb.size
  clear hb
  go_wp2_with fail
  with_reducible refine (HF.out _ HM.out).mono ?_
  rintro e_ w3 ⟨rfl, hb⟩
  replace HB := Lib.hid (on_below HB.out hb)
  replace HT := Lib.hid (HT.out.below hb)
  replace HM := Lib.hid (HM.out.below hb)
  replace HN := Lib.hid (HN.out.below hb)
  replace p0 := keepc hb p0
  replace p1 := keepc hb p1
  replace p2 := keepc hb p2
  replace kp := blk_on kp hb
  replace lp := Nat.lt_of_lt_of_le lp hb.size
  clear hb
  go_wp2_with fail
  go_ret
  exact ⟨rfl, HB.out⟩
set_option maxRecDepth 100000 in
set_option maxHeartbeats 4000000 in
theorem cert_1 (ex ey ez : Int) (tA : Option Addr) (tC : Nat) (t : List Q4) (bA : Option Addr) (bC : Nat) (b : List Bv) (nA : Option Addr) (nC : Nat) (n : List Q4) (h4 : t.length ≤ 9223372036854775807) (h5 : b.length ≤ 9223372036854775807) (h7 : n.length ≤ 9223372036854775807) (h6 : ∀ k, k < b.length → (gdB b k).xs.length ≤ 9223372036854775807) (hf : Few t.length b) (h0 : 20 < n.length) (w : World) (ht : S4 w tA t) (hm : BdS w bA b) (hn : S4 w nA n) :
    Calls Try.prog 6 #[.agg #[.int .i64 ex, .int .i64 ey, .int .i64 ez], .slice tA t.length tC, .slice bA b.length bC, .slice nA n.length nC] w fun e_ w' => e_ = .returned (.bool true) ∧ Below w.heap.size w w' := by
  have HF := Lib.hid (fun W (h : BdS W bA b) => few9_is tA tC t bA bC b h4 h5 h6 true (by simp [hf]) W h)
  clear hf
  have HT := Lib.hid ht
  clear ht
  have HM := Lib.hid hm
  clear hm
  have HN := Lib.hid hn
  clear hn
  go_enter Try.func6, Try.ntmps6
  go_wp2_with fail
  obtain ⟨w1, hw1⟩ : ∃ V, (w.alloc (.cells #[.int .i64 ex, .int .i64 ey, .int .i64 ez] 26)) = V := ⟨_, rfl⟩
  obtain ⟨hB_, kp⟩ := boxes1 _ _ hw1
  rw [hw1]
  clear hw1
  have HB := Lib.hid hB_
  clear hB_
  have p0 := (cells3 kp).1
  have p1 := (cells3 kp).2.1
  have p2 := (cells3 kp).2.2
  have lp := block_lt p0
  replace HT := Lib.hid (HT.out.below HB.out)
  replace HM := Lib.hid (HM.out.below HB.out)
  replace HN := Lib.hid (HN.out.below HB.out)
  with_reducible refine (head9_any _).mono ?_
  rintro e_ w2 ⟨rfl, hb⟩
  replace HB := Lib.hid (on_below HB.out hb)
  replace HT := Lib.hid (HT.out.below hb)
  replace HM := Lib.hid (HM.out.below hb)
  replace HN := Lib.hid (HN.out.below hb)
  replace p0 := keepc hb p0
  replace p1 := keepc hb p1
  replace p2 := keepc hb p2
  replace kp := blk_on kp hb
  replace lp := Nat.lt_of_lt_of_le lp hb.size
  clear hb
  go_wp2_with fail
  with_reducible refine (HF.out _ HM.out).mono ?_
  rintro e_ w3 ⟨rfl, hb⟩
  replace HB := Lib.hid (on_below HB.out hb)
  replace HT := Lib.hid (HT.out.below hb)
  replace HM := Lib.hid (HM.out.below hb)
  replace HN := Lib.hid (HN.out.below hb)
  replace p0 := keepc hb p0
  replace p1 := keepc hb p1
  replace p2 := keepc hb p2
  replace kp := blk_on kp hb
  replace lp := Nat.lt_of_lt_of_le lp hb.size
  clear hb
  go_wp2_with fail
  go_ret
  exact ⟨rfl, HB.out⟩
set_option maxRecDepth 100000 in
set_option maxHeartbeats 4000000 in
theorem cert_2 (ex ey ez : Int) (tA : Option Addr) (tC : Nat) (t : List Q4) (bA : Option Addr) (bC : Nat) (b : List Bv) (nA : Option Addr) (nC : Nat) (n : List Q4) (h4 : t.length ≤ 9223372036854775807) (h5 : b.length ≤ 9223372036854775807) (h7 : n.length ≤ 9223372036854775807) (h6 : ∀ k, k < b.length → (gdB b k).xs.length ≤ 9223372036854775807) (hf : Few t.length b) (h0 : n.length ≤ 20) (E : Int) (hE : Wrg ex ey ez t b E) (hE0 : E ≠ 0) (w : World) (ht : S4 w tA t) (hm : BdS w bA b) (hn : S4 w nA n) :
    Calls Try.prog 6 #[.agg #[.int .i64 ex, .int .i64 ey, .int .i64 ez], .slice tA t.length tC, .slice bA b.length bC, .slice nA n.length nC] w fun e_ w' => e_ = .returned (.bool true) ∧ Below w.heap.size w w' := by
  have HF := Lib.hid (fun W (h : BdS W bA b) => few9_is tA tC t bA bC b h4 h5 h6 true (by simp [hf]) W h)
  have C1 := Lib.hid (fun W (a : S4 W tA t) (c : BdS W bA b) => lines_0 ex ey ez tA tC t bA bC b h4 h5 E hE hE0 (fun _ _ => few_bsm hf) W a c)
  have z0 : (E != 0) = true := by simp [hE0]
  clear hf hE hE0
  have HT := Lib.hid ht
  clear ht
  have HM := Lib.hid hm
  clear hm
  have HN := Lib.hid hn
  clear hn
  go_enter Try.func6, Try.ntmps6
  go_wp2_with fail
  obtain ⟨w1, hw1⟩ : ∃ V, (w.alloc (.cells #[.int .i64 ex, .int .i64 ey, .int .i64 ez] 26)) = V := ⟨_, rfl⟩
  obtain ⟨hB_, kp⟩ := boxes1 _ _ hw1
  rw [hw1]
  clear hw1
  have HB := Lib.hid hB_
  clear hB_
  have p0 := (cells3 kp).1
  have p1 := (cells3 kp).2.1
  have p2 := (cells3 kp).2.2
  have lp := block_lt p0
  replace HT := Lib.hid (HT.out.below HB.out)
  replace HM := Lib.hid (HM.out.below HB.out)
  replace HN := Lib.hid (HN.out.below HB.out)
  with_reducible refine (head9_any _).mono ?_
  rintro e_ w2 ⟨rfl, hb⟩
  replace HB := Lib.hid (on_below HB.out hb)
  replace HT := Lib.hid (HT.out.below hb)
  replace HM := Lib.hid (HM.out.below hb)
  replace HN := Lib.hid (HN.out.below hb)
  replace p0 := keepc hb p0
  replace p1 := keepc hb p1
  replace p2 := keepc hb p2
  replace kp := blk_on kp hb
  replace lp := Nat.lt_of_lt_of_le lp hb.size
  clear hb
  go_wp2_with fail
  with_reducible refine (HF.out _ HM.out).mono ?_
  rintro e_ w3 ⟨rfl, hb⟩
  replace HB := Lib.hid (on_below HB.out hb)
  replace HT := Lib.hid (HT.out.below hb)
  replace HM := Lib.hid (HM.out.below hb)
  replace HN := Lib.hid (HN.out.below hb)
  replace p0 := keepc hb p0
  replace p1 := keepc hb p1
  replace p2 := keepc hb p2
  replace kp := blk_on kp hb
  replace lp := Nat.lt_of_lt_of_le lp hb.size
  clear hb
  go_wp2_with fail
  with_reducible refine (C1.out _ HT.out HM.out).mono ?_
  rintro e_ w4 ⟨rfl, hb⟩
  replace HB := Lib.hid (on_below HB.out hb)
  replace HT := Lib.hid (HT.out.below hb)
  replace HM := Lib.hid (HM.out.below hb)
  replace HN := Lib.hid (HN.out.below hb)
  replace p0 := keepc hb p0
  replace p1 := keepc hb p1
  replace p2 := keepc hb p2
  replace kp := blk_on kp hb
  replace lp := Nat.lt_of_lt_of_le lp hb.size
  clear hb
  go_wp2_with fail
  go_ret
  exact ⟨rfl, HB.out⟩
set_option maxRecDepth 100000 in
set_option maxHeartbeats 4000000 in
theorem cert_3 (ex ey ez : Int) (tA : Option Addr) (tC : Nat) (t : List Q4) (bA : Option Addr) (bC : Nat) (b : List Bv) (nA : Option Addr) (nC : Nat) (n : List Q4) (h4 : t.length ≤ 9223372036854775807) (h5 : b.length ≤ 9223372036854775807) (h7 : n.length ≤ 9223372036854775807) (h6 : ∀ k, k < b.length → (gdB b k).xs.length ≤ 9223372036854775807) (hf : Few t.length b) (h0 : n.length ≤ 20) (hE : Wrg ex ey ez t b 0) (hI : I4 n) (hR : ¬ Rgt ex ey ez t b n) (w : World) (ht : S4 w tA t) (hm : BdS w bA b) (hn : S4 w nA n) :
    Calls Try.prog 6 #[.agg #[.int .i64 ex, .int .i64 ey, .int .i64 ez], .slice tA t.length tC, .slice bA b.length bC, .slice nA n.length nC] w fun e_ w' => e_ = .returned (.bool true) ∧ Below w.heap.size w w' := by
  have HF := Lib.hid (fun W (h : BdS W bA b) => few9_is tA tC t bA bC b h4 h5 h6 true (by simp [hf]) W h)
  have C1 := Lib.hid (fun W (a : S4 W tA t) (c : BdS W bA b) => lines_1 ex ey ez tA tC t bA bC b h4 h5 hE W a c)
  have C2 := Lib.hid (fun g W (a : S4 W tA t) (c : BdS W bA b) (e : S4 W (some ⟨g, 0, none⟩) (lns ex ey ez t b)) => check_is ex ey ez tA tC t bA bC b (some ⟨g, 0, none⟩) t.length (lns ex ey ez t b) h4 h5 (by rw [lns_len]; exact h4) (lns_i4 (wrg_zero hE).1 (wrg_zero hE).2.1 (wrg_zero hE).2.2) true 0 ⟨hE, Or.inr ⟨rfl, iff_of_true rfl (lns_right (wrg_zero hE).1 (wrg_zero hE).2.1 (wrg_zero hE).2.2)⟩⟩ (fun _ _ => few_bsm hf) W a c e)
  rw [lns_len] at C2
  have C3 := Lib.hid (fun W (a : S4 W tA t) (c : BdS W bA b) (e : S4 W nA n) => check_is ex ey ez tA tC t bA bC b nA nC n h4 h5 h7 hI false 0 ⟨hE, Or.inr ⟨rfl, iff_of_false (by decide) hR⟩⟩ (fun _ _ => few_bsm hf) W a c e)
  have z0 : ((0 : Int) != 0) = false := rfl
  have z9 : (t.length : Int) = t.length := rfl
  clear hE hR hf hI
  have HT := Lib.hid ht
  clear ht
  have HM := Lib.hid hm
  clear hm
  have HN := Lib.hid hn
  clear hn
  go_enter Try.func6, Try.ntmps6
  go_wp2_with fail
  obtain ⟨w1, hw1⟩ : ∃ V, (w.alloc (.cells #[.int .i64 ex, .int .i64 ey, .int .i64 ez] 26)) = V := ⟨_, rfl⟩
  obtain ⟨hB_, kp⟩ := boxes1 _ _ hw1
  rw [hw1]
  clear hw1
  have HB := Lib.hid hB_
  clear hB_
  have p0 := (cells3 kp).1
  have p1 := (cells3 kp).2.1
  have p2 := (cells3 kp).2.2
  have lp := block_lt p0
  replace HT := Lib.hid (HT.out.below HB.out)
  replace HM := Lib.hid (HM.out.below HB.out)
  replace HN := Lib.hid (HN.out.below HB.out)
  with_reducible refine (head9_any _).mono ?_
  rintro e_ w2 ⟨rfl, hb⟩
  replace HB := Lib.hid (on_below HB.out hb)
  replace HT := Lib.hid (HT.out.below hb)
  replace HM := Lib.hid (HM.out.below hb)
  replace HN := Lib.hid (HN.out.below hb)
  replace p0 := keepc hb p0
  replace p1 := keepc hb p1
  replace p2 := keepc hb p2
  replace kp := blk_on kp hb
  replace lp := Nat.lt_of_lt_of_le lp hb.size
  clear hb
  go_wp2_with fail
  with_reducible refine (HF.out _ HM.out).mono ?_
  rintro e_ w3 ⟨rfl, hb⟩
  replace HB := Lib.hid (on_below HB.out hb)
  replace HT := Lib.hid (HT.out.below hb)
  replace HM := Lib.hid (HM.out.below hb)
  replace HN := Lib.hid (HN.out.below hb)
  replace p0 := keepc hb p0
  replace p1 := keepc hb p1
  replace p2 := keepc hb p2
  replace kp := blk_on kp hb
  replace lp := Nat.lt_of_lt_of_le lp hb.size
  clear hb
  go_wp2_with fail
  with_reducible refine (C1.out _ HT.out HM.out).mono ?_
  rintro e_ w4 ⟨g, rfl, hs4, hb⟩
  replace HB := Lib.hid (on_below HB.out hb)
  replace HT := Lib.hid (HT.out.below hb)
  replace HM := Lib.hid (HM.out.below hb)
  replace HN := Lib.hid (HN.out.below hb)
  replace p0 := keepc hb p0
  replace p1 := keepc hb p1
  replace p2 := keepc hb p2
  replace kp := blk_on kp hb
  replace lp := Nat.lt_of_lt_of_le lp hb.size
  clear hb
  have HS := Lib.hid hs4
  clear hs4
  go_wp2_with fail
  with_reducible refine (C2.out _ _ HT.out HM.out HS.out).mono ?_
  rintro e_ w5 ⟨rfl, hb⟩
  replace HB := Lib.hid (on_below HB.out hb)
  replace HT := Lib.hid (HT.out.below hb)
  replace HM := Lib.hid (HM.out.below hb)
  replace HN := Lib.hid (HN.out.below hb)
  replace HS := Lib.hid (HS.out.below hb)
  replace p0 := keepc hb p0
  replace p1 := keepc hb p1
  replace p2 := keepc hb p2
  replace kp := blk_on kp hb
  replace lp := Nat.lt_of_lt_of_le lp hb.size
  clear hb
  go_wp2_with fail
  with_reducible refine (C3.out _ HT.out HM.out HN.out).mono ?_
  rintro e_ w6 ⟨rfl, hb⟩
  replace HB := Lib.hid (on_below HB.out hb)
  replace HT := Lib.hid (HT.out.below hb)
  replace HM := Lib.hid (HM.out.below hb)
  replace HN := Lib.hid (HN.out.below hb)
  replace HS := Lib.hid (HS.out.below hb)
  replace p0 := keepc hb p0
  replace p1 := keepc hb p1
  replace p2 := keepc hb p2
  replace kp := blk_on kp hb
  replace lp := Nat.lt_of_lt_of_le lp hb.size
  clear hb
  go_wp2_with fail
  go_ret
  exact ⟨rfl, HB.out⟩
set_option maxRecDepth 100000 in
set_option maxHeartbeats 4000000 in
theorem cert_4 (ex ey ez : Int) (tA : Option Addr) (tC : Nat) (t : List Q4) (bA : Option Addr) (bC : Nat) (b : List Bv) (nA : Option Addr) (nC : Nat) (n : List Q4) (h4 : t.length ≤ 9223372036854775807) (h5 : b.length ≤ 9223372036854775807) (h7 : n.length ≤ 9223372036854775807) (h6 : ∀ k, k < b.length → (gdB b k).xs.length ≤ 9223372036854775807) (hf : Few t.length b) (h0 : n.length ≤ 20) (hE : Wrg ex ey ez t b 0) (hI : I4 n) (hR : Rgt ex ey ez t b n) (hX : ∀ k, k < t.length → ((gd4 (lns ex ey ez t b) k).b = -1 ↔ (gd4 n k).b = -1)) (sn sd : Int) (hS : ShR t (lns ex ey ez t b) sn sd 0) (hT : ShR t n sn sd 0) (w : World) (ht : S4 w tA t) (hm : BdS w bA b) (hn : S4 w nA n) :
    Calls Try.prog 6 #[.agg #[.int .i64 ex, .int .i64 ey, .int .i64 ez], .slice tA t.length tC, .slice bA b.length bC, .slice nA n.length nC] w fun e_ w' => e_ = .returned (.bool true) ∧ Below w.heap.size w w' := by
  have HF := Lib.hid (fun W (h : BdS W bA b) => few9_is tA tC t bA bC b h4 h5 h6 true (by simp [hf]) W h)
  have C1 := Lib.hid (fun W (a : S4 W tA t) (c : BdS W bA b) => lines_1 ex ey ez tA tC t bA bC b h4 h5 hE W a c)
  have C2 := Lib.hid (fun g W (a : S4 W tA t) (c : BdS W bA b) (e : S4 W (some ⟨g, 0, none⟩) (lns ex ey ez t b)) => check_is ex ey ez tA tC t bA bC b (some ⟨g, 0, none⟩) t.length (lns ex ey ez t b) h4 h5 (by rw [lns_len]; exact h4) (lns_i4 (wrg_zero hE).1 (wrg_zero hE).2.1 (wrg_zero hE).2.2) true 0 ⟨hE, Or.inr ⟨rfl, iff_of_true rfl (lns_right (wrg_zero hE).1 (wrg_zero hE).2.1 (wrg_zero hE).2.2)⟩⟩ (fun _ _ => few_bsm hf) W a c e)
  rw [lns_len] at C2
  have C3 := Lib.hid (fun W (a : S4 W tA t) (c : BdS W bA b) (e : S4 W nA n) => check_is ex ey ez tA tC t bA bC b nA nC n h4 h5 h7 hI true 0 ⟨hE, Or.inr ⟨rfl, iff_of_true rfl hR⟩⟩ (fun _ _ => few_bsm hf) W a c e)
  have z0 : ((0 : Int) != 0) = false := rfl
  have ht12 := hf.1
  have HNl := Lib.hid hR.1.1
  have HX := Lib.hid hX
  have z1 : ((n.length : Int) != (t.length : Int)) = false := by simp [hR.1.1]
  have C4 := Lib.hid (fun g W (a : S4 W tA t) (c : S4 W (some ⟨g, 0, none⟩) (lns ex ey ez t b)) => share_is tA tC t (some ⟨g, 0, none⟩) t.length (lns ex ey ez t b) h4 (by rw [lns_len]; exact h4) sn sd 0 hS W a c)
  rw [lns_len] at C4
  have C5 := Lib.hid (fun W (a : S4 W tA t) (c : S4 W nA n) => share_is tA tC t nA nC n h4 h7 sn sd 0 hT W a c)
  have er := fun W => rat_eq (a := sn) (b := sd) (x := sn) (y := sd) (r := true) (by simp) W
  clear hE hf hI hX hR hS hT
  have HT := Lib.hid ht
  clear ht
  have HM := Lib.hid hm
  clear hm
  have HN := Lib.hid hn
  clear hn
  go_enter Try.func6, Try.ntmps6
  go_wp2_with fail
  obtain ⟨w1, hw1⟩ : ∃ V, (w.alloc (.cells #[.int .i64 ex, .int .i64 ey, .int .i64 ez] 26)) = V := ⟨_, rfl⟩
  obtain ⟨hB_, kp⟩ := boxes1 _ _ hw1
  rw [hw1]
  clear hw1
  have HB := Lib.hid hB_
  clear hB_
  have p0 := (cells3 kp).1
  have p1 := (cells3 kp).2.1
  have p2 := (cells3 kp).2.2
  have lp := block_lt p0
  replace HT := Lib.hid (HT.out.below HB.out)
  replace HM := Lib.hid (HM.out.below HB.out)
  replace HN := Lib.hid (HN.out.below HB.out)
  with_reducible refine (head9_any _).mono ?_
  rintro e_ w2 ⟨rfl, hb⟩
  replace HB := Lib.hid (on_below HB.out hb)
  replace HT := Lib.hid (HT.out.below hb)
  replace HM := Lib.hid (HM.out.below hb)
  replace HN := Lib.hid (HN.out.below hb)
  replace p0 := keepc hb p0
  replace p1 := keepc hb p1
  replace p2 := keepc hb p2
  replace kp := blk_on kp hb
  replace lp := Nat.lt_of_lt_of_le lp hb.size
  clear hb
  go_wp2_with fail
  with_reducible refine (HF.out _ HM.out).mono ?_
  rintro e_ w3 ⟨rfl, hb⟩
  replace HB := Lib.hid (on_below HB.out hb)
  replace HT := Lib.hid (HT.out.below hb)
  replace HM := Lib.hid (HM.out.below hb)
  replace HN := Lib.hid (HN.out.below hb)
  replace p0 := keepc hb p0
  replace p1 := keepc hb p1
  replace p2 := keepc hb p2
  replace kp := blk_on kp hb
  replace lp := Nat.lt_of_lt_of_le lp hb.size
  clear hb
  go_wp2_with fail
  with_reducible refine (C1.out _ HT.out HM.out).mono ?_
  rintro e_ w4 ⟨g, rfl, hs4, hb⟩
  replace HB := Lib.hid (on_below HB.out hb)
  replace HT := Lib.hid (HT.out.below hb)
  replace HM := Lib.hid (HM.out.below hb)
  replace HN := Lib.hid (HN.out.below hb)
  replace p0 := keepc hb p0
  replace p1 := keepc hb p1
  replace p2 := keepc hb p2
  replace kp := blk_on kp hb
  replace lp := Nat.lt_of_lt_of_le lp hb.size
  clear hb
  have HS := Lib.hid hs4
  clear hs4
  go_wp2_with fail
  with_reducible refine (C2.out _ _ HT.out HM.out HS.out).mono ?_
  rintro e_ w5 ⟨rfl, hb⟩
  replace HB := Lib.hid (on_below HB.out hb)
  replace HT := Lib.hid (HT.out.below hb)
  replace HM := Lib.hid (HM.out.below hb)
  replace HN := Lib.hid (HN.out.below hb)
  replace HS := Lib.hid (HS.out.below hb)
  replace p0 := keepc hb p0
  replace p1 := keepc hb p1
  replace p2 := keepc hb p2
  replace kp := blk_on kp hb
  replace lp := Nat.lt_of_lt_of_le lp hb.size
  clear hb
  go_wp2_with fail
  with_reducible refine (C3.out _ HT.out HM.out HN.out).mono ?_
  rintro e_ w6 ⟨rfl, hb⟩
  replace HB := Lib.hid (on_below HB.out hb)
  replace HT := Lib.hid (HT.out.below hb)
  replace HM := Lib.hid (HM.out.below hb)
  replace HN := Lib.hid (HN.out.below hb)
  replace HS := Lib.hid (HS.out.below hb)
  replace p0 := keepc hb p0
  replace p1 := keepc hb p1
  replace p2 := keepc hb p2
  replace kp := blk_on kp hb
  replace lp := Nat.lt_of_lt_of_le lp hb.size
  clear hb
  go_wp2_with fail
  go_loopw [9, 86] (fun u i wr => ∃ k : Nat, k ≤ t.length ∧ i = .int .i64 k ∧ u = .bool true ∧ Below w6.heap.size w6 wr) (fun _ i _ => t.length - (intOf i).toNat)
  case atStart => exact ⟨0, Nat.zero_le _, rfl, rfl, Below.refl _ _⟩
  case round =>
    obtain ⟨k, hk, rfl, rfl, hW⟩ := hrel
    have w1_ : IntKind.i64.wrap ((k : Int) + 1) = (k : Int) + 1 := IntWalk.i64_in _ ⟨by omega, by omega⟩
    have w2_ : wrap64 ((k : Int) + 1) = (k : Int) + 1 := IntWalk.wrap64_in _ ⟨by omega, by omega⟩
    by_cases hlt : k < t.length
    · obtain ⟨b0, o0, e4, e0, e1, e2, e3⟩ := HS.out.below hW k (by rw [lns_len]; exact hlt)
      obtain ⟨rfl, rfl⟩ : g = b0 ∧ 0 = o0 := by simpa using e4
      obtain ⟨b1, o1, rfl, f0, f1, f2, f3⟩ := HN.out.below hW k (by rw [HNl.out]; exact hlt)
      have e5 : (k : Int) < n.length := by have := HNl.out; omega
      have HQ := Lib.hid (HX.out k hlt)
      have HW := Lib.hid hW
      clear hW e4
      simp only [Nat.zero_add] at e0 e1 e2 e3
      generalize gd4 (lns ex ey ez t b) k = u at *
      generalize gd4 n k = v at *
      obtain ⟨ua, ub, uc, ud⟩ := u
      obtain ⟨va, vb, vc, vd⟩ := v
      dsimp only at e0 e1 e2 e3 f0 f1 f2 f3 HQ
      have ho := below_new wr (.cells #[.int .i64 ua, .int .i64 ub, .int .i64 uc, .int .i64 ud] 59)
      have n1 : World.cell? (wr.alloc (.cells #[.int .i64 ua, .int .i64 ub, .int .i64 uc, .int .i64 ud] 59)) ⟨wr.heap.size, 1, none⟩ = some (.int .i64 ub) := by simp [go_sem]
      have m1 := keepc ho f1
      have m1 := keepc ho f1
      have HO := Lib.hid ho
      clear ho
      obtain ⟨q, hq⟩ : ∃ q, (ub == -1) = q := ⟨_, rfl⟩
      have hv : (vb == -1) = q := by rw [← hq, Bool.eq_iff_iff]; simp only [beq_iff_eq]; exact HQ.out.symm
      clear HQ
      go_wp2_with fail
      generalize wr.alloc (.cells #[.int .i64 ua, .int .i64 ub, .int .i64 uc, .int .i64 ud] 59) = wz at *
      cases q
      all_goals (try go_quiet (fail))
      all_goals go_wp2_with fail
      all_goals go_roundw
      case rel => exact ⟨k + 1, hlt, int_of (by first | rfl | exact w1_ | exact w2_), rfl, below_drewN' (HW.out.trans (HO.out.mono HW.out.size)) _⟩
      case measure => simp [intOf]; omega
      case rel => exact ⟨k + 1, hlt, int_of (by first | rfl | exact w1_ | exact w2_), rfl, below_drewN' (HW.out.trans (HO.out.mono HW.out.size)) _⟩
      case measure => simp [intOf]; omega
    · have hke : k = t.length := by omega
      subst hke
      have hb := hW
      clear hW
      replace HB := Lib.hid (on_below HB.out hb)
      replace HT := Lib.hid (HT.out.below hb)
      replace HM := Lib.hid (HM.out.below hb)
      replace HN := Lib.hid (HN.out.below hb)
      replace HS := Lib.hid (HS.out.below hb)
      replace p0 := keepc hb p0
      replace p1 := keepc hb p1
      replace p2 := keepc hb p2
      replace kp := blk_on kp hb
      replace lp := Nat.lt_of_lt_of_le lp hb.size
      clear hb
      go_wp2_with fail
      with_reducible refine (C4.out _ _ HT.out HS.out).mono ?_
      rintro e_ w7 ⟨rfl, hb⟩
      replace HB := Lib.hid (on_below HB.out hb)
      replace HT := Lib.hid (HT.out.below hb)
      replace HM := Lib.hid (HM.out.below hb)
      replace HN := Lib.hid (HN.out.below hb)
      replace HS := Lib.hid (HS.out.below hb)
      replace p0 := keepc hb p0
      replace p1 := keepc hb p1
      replace p2 := keepc hb p2
      replace kp := blk_on kp hb
      replace lp := Nat.lt_of_lt_of_le lp hb.size
      clear hb
      go_wp2_with fail
      have s0 : World.cell? (w7.alloc (.cells #[.int .i64 sn, .int .i64 sd] 37)) ⟨w7.heap.size, 0, none⟩ = some (.int .i64 sn) := by simp [go_sem]
      have s1 : World.cell? (w7.alloc (.cells #[.int .i64 sn, .int .i64 sd] 37)) ⟨w7.heap.size, 1, none⟩ = some (.int .i64 sd) := by simp [go_sem]
      have ls : w7.heap.size < (w7.alloc (.cells #[.int .i64 sn, .int .i64 sd] 37)).heap.size := by simp
      have hb : Below w7.heap.size w7 (w7.alloc (.cells #[.int .i64 sn, .int .i64 sd] 37)) := below_new _ _
      generalize w7.alloc (.cells #[.int .i64 sn, .int .i64 sd] 37) = w8 at *
      replace HB := Lib.hid (on_below HB.out hb)
      replace HT := Lib.hid (HT.out.below hb)
      replace HM := Lib.hid (HM.out.below hb)
      replace HN := Lib.hid (HN.out.below hb)
      replace HS := Lib.hid (HS.out.below hb)
      replace p0 := keepc hb p0
      replace p1 := keepc hb p1
      replace p2 := keepc hb p2
      replace kp := blk_on kp hb
      replace lp := Nat.lt_of_lt_of_le lp hb.size
      clear hb
      generalize w7.heap.size = gs at *
      with_reducible refine (C5.out _ HT.out HN.out).mono ?_
      rintro e_ w9 ⟨rfl, hb⟩
      replace HB := Lib.hid (on_below HB.out hb)
      replace HT := Lib.hid (HT.out.below hb)
      replace HM := Lib.hid (HM.out.below hb)
      replace HN := Lib.hid (HN.out.below hb)
      replace HS := Lib.hid (HS.out.below hb)
      replace p0 := keepc hb p0
      replace p1 := keepc hb p1
      replace p2 := keepc hb p2
      replace s0 := keepc hb s0
      replace s1 := keepc hb s1
      replace kp := blk_on kp hb
      replace lp := Nat.lt_of_lt_of_le lp hb.size
      replace ls := Nat.lt_of_lt_of_le ls hb.size
      clear hb
      go_wp2_with fail
      go_ret
      exact ⟨rfl, on_below HB.out (below_new _ _)⟩
theorem ssum_congr {T N M : List Q4} : ∀ k, (∀ j, j < k → ((gd4 N j).b = -1 ↔ (gd4 M j).b = -1)) → ssum T N k = ssum T M k
  | 0, _ => rfl
  | k + 1, h => by
    have ih := ssum_congr (T := T) (N := N) (M := M) k (fun j hj => h j (by omega))
    have hk := h k (by omega)
    unfold ssum
    rw [ih]
    by_cases c : (gd4 N k).b = -1
    · rw [if_pos c, if_pos (hk.1 c)]
    · rw [if_neg c, if_neg (fun e => c (hk.2 e))]
theorem law_any (ex ey ez : Int) (tA : Option Addr) (tC : Nat) (t : List Q4) (bA : Option Addr) (bC : Nat) (b : List Bv) (nA : Option Addr) (nC : Nat) (n : List Q4) (w : World) (lt : L4 w tA tC t) (lb : LB w bA bC b) (ln : L4 w nA nC n) (hI : ∀ k, k < n.length → I64 (gd4 n k).c ∧ I64 (gd4 n k).d) :
    Calls Try.prog 6 #[.agg #[.int .i64 ex, .int .i64 ey, .int .i64 ez], .slice tA t.length tC, .slice bA b.length bC, .slice nA n.length nC] w fun e_ w' => e_ = .returned (.bool true) ∧ Below w.heap.size w w' := by
  have h4 : t.length ≤ 9223372036854775807 := Nat.le_trans lt.cap.1 lt.cap.2
  have h5 : b.length ≤ 9223372036854775807 := Nat.le_trans lb.cap.1 lb.cap.2
  have h7 : n.length ≤ 9223372036854775807 := Nat.le_trans ln.cap.1 ln.cap.2
  have h6 := lb.len
  by_cases hf : Few t.length b
  · by_cases h0 : n.length ≤ 20
    · obtain ⟨E, hE⟩ := wrg_ex ex ey ez t b
      by_cases hE0 : E = 0
      · subst hE0
        obtain ⟨ht, hs, hbd⟩ := wrg_zero hE
        by_cases hR : Rgt ex ey ez t b n
        · have hL := lns_right ht hs hbd
          have hX : ∀ k, k < t.length → ((gd4 (lns ex ey ez t b) k).b = -1 ↔ (gd4 n k).b = -1) := fun k hk => (tru_seen (hL.2 k hk)).trans (tru_seen (hR.2 k hk)).symm
          have hb := ht.1
          have hl60 : t.length ≤ 60 := by have := hf.1; omega
          refine cert_4 ex ey ez tA tC t bA bC b nA nC n h4 h5 h7 h6 hf h0 hE hI hR hX _ _ (Or.inr (Or.inr ⟨hl60, ht, hL.1, rfl, rfl, rfl⟩)) (Or.inr (Or.inr ⟨hl60, ht, hR.1, rfl, ?_, ?_⟩)) w lt.sl lb.sl ln.sl
          · rw [ssum_congr (N := lns ex ey ez t b) (M := n) t.length hX]
          · rw [ssum_congr (N := lns ex ey ez t b) (M := n) t.length hX]
        · exact cert_3 ex ey ez tA tC t bA bC b nA nC n h4 h5 h7 h6 hf h0 hE hI hR w lt.sl lb.sl ln.sl
      · exact cert_2 ex ey ez tA tC t bA bC b nA nC n h4 h5 h7 h6 hf h0 E hE hE0 w lt.sl lb.sl ln.sl
    · exact cert_1 ex ey ez tA tC t bA bC b nA nC n h4 h5 h7 h6 hf (by omega) w lt.sl lb.sl ln.sl
  · exact cert_0 ex ey ez tA tC t bA bC b nA nC n h4 h5 h7 h6 hf w lt.sl lb.sl ln.sl
/-! ### The row -/
open Go.ChangeShapes Go.WideShapes Go.ChangeAt Go.Joins
theorem own : ownKnob Try.prog.godebug = none := by kernel_rfl
noncomputable def laidWorld (os : Os) : World := World.holding Try.prog os ⟨#[], #[], []⟩
theorem laidWorld_met (os : Os) (args : Array Value) : laidMet Try.prog [] ((laidWorld os).forCall (fun _ _ => 0) ⟨#[], args, []⟩).memory :=
  laidMet_of_run' 8 (by kernel_rfl) (by kernel_rfl)

set_option maxRecDepth 100000 in
theorem contract (H : Type) (enc : TypeId × Value → H) (W : World) (base : Nat) (args : Array Value) (ds gs : List (DataW H)) (before : List MemPlace)
    (hval : ∀ (j : Nat) t v, Try.f6.params[j]? = some t → args[j]? = some v → Value.okWide Try.prog W .any base t v)
    (hW : DataW.Whole enc Try.prog Try.f6.params.toList Rows.sightCertificatesSpec.vars false W args.toList ds gs before) :
    Calls Try.prog 6 args W fun e W' => ∃ v, e = .returned v ∧ Rows.sightCertificatesSpec.post enc Try.prog Try.f6 false true false false W args v W' := by
  have hW' := hW
  have hold : ∀ q ∈ before, decide (q.block < W.heap.size) = true := fun q hq => by simpa using hW.lt q hq
  obtain ⟨p, q, hA0, hV, rfl, hfz, hnd⟩ := hW
  have hA : DataW.TrodAll enc Try.prog W 0 (fun _ => true) true Try.f6.params.toList args.toList ds p := hA0
  rw [Try.params6] at hA hval
  obtain ⟨v0, vs0, d0, ds0, p0, q0, hargs, rfl, rfl, h0, r0⟩ := trodAll_cons hA
  obtain ⟨v1, vs1, d1, ds1, p1, q1, rfl, rfl, rfl, h1, r1⟩ := trodAll_cons r0
  obtain ⟨v2, vs2, d2, ds2, p2, q2, rfl, rfl, rfl, h2, r2⟩ := trodAll_cons r1
  obtain ⟨v3, vs3, d3, ds3, p3, q3, rfl, rfl, rfl, h3, r3⟩ := trodAll_cons r2
  obtain ⟨rfl, rfl, rfl⟩ := trodAll_nil r3
  obtain rfl : args = #[v0, v1, v2, v3] := Array.toList_inj.1 hargs
  obtain ⟨rfl, rfl⟩ := trodVars_none hV
  obtain ⟨ex, ey, ez, rfl, rfl, rfl, iex, iey, iez⟩ := open_vec (hval 0 26 v0 rfl rfl) h0
  obtain ⟨tA, tC, t, rfl, lt, shutt⟩ := open_targets (hval 1 45 v1 rfl rfl) h1
  obtain ⟨bA, bC, b, rfl, lb, shutb⟩ := open_bodies (hval 2 46 v2 rfl rfl) h2
  obtain ⟨nA, nC, n, rfl, ln, nn, shutn⟩ := open_lines (hval 3 47 v3 rfl rfl) h3
  clear hA0
  refine (law_any ex ey ez tA tC t bA bC b nA nC n W lt lb ln nn).mono fun e W' ⟨he, bel⟩ => ?_
  subst he
  exact ⟨_, rfl, _, _, _, [], _, [], hW', trodAll_mk1 (shut_bool Try.underlying4 _), (trodAll_cons_mk (shut_vec iex iey iez) (trodAll_cons_mk (shutt W' (fun b => decide (b < W.heap.size)) bel (fun q hq => hold q (by simp [hq]))) (trodAll_cons_mk (shutb W' (fun b => decide (b < W.heap.size)) bel (fun q hq => hold q (by simp [hq]))) (trodAll_cons_mk (shutn W' (fun b => decide (b < W.heap.size)) bel (fun q hq => hold q (by simp [hq]))) trodAll_mk0)))), rfl, bel.frame _, fun h => by cases h⟩

theorem reads (os : Os) {H : Type} (enc : TypeId × Value → H) : ∃ places, DataW.whole enc Try.prog ((laidWorld os).forCall (fun _ _ => 0) ⟨#[], #[.agg #[.int .i64 0, .int .i64 0, .int .i64 0], .slice none 0 0, .slice none 0 0, .slice none 0 0], []⟩).memory Try.f6.params.toList Rows.sightCertificatesSpec.vars false (#[.agg #[.int .i64 0, .int .i64 0, .int .i64 0], .slice none 0 0, .slice none 0 0, .slice none 0 0] : Array Value).toList 8 = some ([.agg [.lit (.int .i64 0), .lit (.int .i64 0), .lit (.int .i64 0)], .nil, .nil, .nil], [], places) :=
  ⟨[], by kernel_rfl⟩

set_option maxRecDepth 100000 in
theorem lifted (os : Os) (started : os.Started) (H : Type) (enc : TypeId × Value → H) (F : Stop.Interp) :
    ReturnsInHanded {} Try.checked os 6 .any ((OpenSpec.ofChange Rows.sightCertificatesSpec).preRow enc Try.prog Try.f6 Rows.sightCertificatesRow.domain false Rows.sightCertificatesRow.laid) (((OpenSpec.ofChange Rows.sightCertificatesSpec).at F).post enc Try.prog Try.f6 false true false false) := by
  obtain ⟨places, hx⟩ := reads os enc
  refine returnsInHanded_of_row (C := Try.checked) (s := OpenSpec.ofChange Rows.sightCertificatesSpec) own started (by kernel_rfl) Try.func6
    (witness_row_atRef (enc := enc) (C := Try.checked) false (laidWorld os) #[.agg #[.int .i64 0, .int .i64 0, .int .i64 0], .slice none 0 0, .slice none 0 0, .slice none 0 0] rfl (by kernel_rfl) (by kernel_rfl) (by kernel_rfl)
      (OpenSpec.preRow_of_cond 8 hx (by kernel_rfl) (fun k hk => by cases hk) (by kernel_rfl) (laidWorld_met os _))) ?_
  intro W base args ds gs before hval hW _ hcond _ hL hsh _
  exact contract H enc W base args ds gs before hval hW

/-- The statement. -/
theorem said : Rows.SightCertificatesSaid :=
  OpenClaim.holds_of_cond 6 Try.f6 rfl rfl rfl rfl rfl rfl rfl ⟨rfl, rfl, rfl, rfl, rfl⟩ rfl rfl rfl rfl rfl (by kernel_rfl) Try.func6 (by kernel_rfl)
    (of_decide_eq_true (by kernel_rfl)) (by unfold Func.isWrapper; first | (rw [if_pos (by decide +kernel)]; kernel_rfl) | (rw [if_neg (by decide +kernel)]; exact ⟨rfl, rfl⟩))
    (fun os started H enc _ F => by rw [OpenClaim.pre_eq_preRow]; exact lifted os started H enc F)
end Go.Proofs.Ytehlplejcaofoaa.LawCert
