/-
  SunGlare: walks.
-/
import Derived.Test.YtgjcmolocoijiaaYSunGl0
import Derived.Test.YtgjcmolocoijiaaYShpY
import Derived.Deep.DeepCutAuto
import Derived.Test.YtgjcmolocoijiaaRows
import Derived.ProofKit
import Derived.OpenShut
import Derived.Deep.DeepHandedRow
import Derived.Deep.DeepWitnessRowRef
import Derived.MakeChecks
namespace Go.Proofs.Ytgjcmolocoijiaa.LawGlare
open Go.RowKit Go.Sort
open Go.RowKit (Below)
set_option linter.unusedVariables false
set_option linter.unusedSimpArgs false
attribute [local go_sem] Oper.semAt_some

set_option maxRecDepth 100000 in
set_option maxHeartbeats 4000000 in
theorem gl_0 (tA : Option Addr) (tC : Nat) (t : List Q4) (m ex ey ez tx ty tz rn rd sn sd : Int) (bA : Option Addr) (bC : Nat) (b : List Bv) (nA : Option Addr) (nC : Nat) (n : List (Int × Int)) (nl nh : Int) (h4 : t.length ≤ 9223372036854775807) (h5 : b.length ≤ 9223372036854775807) (h6 : ∀ k, k < b.length → (gdB b k).xs.length ≤ 9223372036854775807) (h7 : n.length ≤ 9223372036854775807) (i1 : I64 rn) (i2 : I64 rd) (i3 : I64 sn) (i4 : I64 sd) (hf : ¬ FewS t.length b) (w : World) (ht : S4 w tA t) (hm : BdS w bA b) (hn : SlS w nA n) :
    Calls Try.prog 11 #[.slice tA t.length tC, .int .i64 m, .agg #[.int .i64 ex, .int .i64 ey, .int .i64 ez], .agg #[.int .i64 tx, .int .i64 ty, .int .i64 tz], .agg #[.int .i64 rn, .int .i64 rd], .agg #[.int .i64 sn, .int .i64 sd], .slice bA b.length bC, .agg #[.slice nA n.length nC, .int .i64 nl, .int .i64 nh]] w fun e_ w' => e_ = .returned (.bool true) ∧ Below w.heap.size w w' := by
  have HF := Lib.hid (fun W (h : BdS W bA b) => few10_is tA tC t bA bC b h4 h5 h6 false (by simp [hf]) W h)
  clear hf
  have HT := Lib.hid ht
  clear ht
  have HM := Lib.hid hm
  clear hm
  have HN := Lib.hid hn
  clear hn
  go_enter Try.func11, Try.ntmps11
  go_wp2_with fail
  obtain ⟨w1, hw1⟩ : ∃ V, (((((w.alloc (.cells #[.int .i64 ex, .int .i64 ey, .int .i64 ez] 27)).alloc (.cells #[.int .i64 tx, .int .i64 ty, .int .i64 tz] 27)).alloc (.cells #[.int .i64 rn, .int .i64 rd] 36)).alloc (.cells #[.int .i64 sn, .int .i64 sd] 36)).alloc (.cells #[.slice nA n.length nC, .int .i64 nl, .int .i64 nh] 59)) = V := ⟨_, rfl⟩
  obtain ⟨hB_, kp, kq, kr, ks, ky⟩ := boxes5 _ _ _ _ _ _ hw1
  rw [hw1]
  clear hw1
  have HB := Lib.hid hB_
  clear hB_
  have p0 := (cells3 kp).1
  have p1 := (cells3 kp).2.1
  have p2 := (cells3 kp).2.2
  have lp := block_lt p0
  have q0 := (cells3 kq).1
  have q1 := (cells3 kq).2.1
  have q2 := (cells3 kq).2.2
  have lq := block_lt q0
  have r0 := (two_cells kr).1
  have r1 := (two_cells kr).2.1
  have lr := block_lt r0
  have s0 := (two_cells ks).1
  have s1 := (two_cells ks).2.1
  have ls := block_lt s0
  have y0 := (cells3 ky).1
  have y1 := (cells3 ky).2.1
  have y2 := (cells3 ky).2.2
  have ly := block_lt y0
  replace HT := Lib.hid (HT.out.below HB.out)
  replace HM := Lib.hid (HM.out.below HB.out)
  replace HN := Lib.hid (HN.out.below HB.out)
  with_reducible refine (head10_any _).mono ?_
  rintro e_ w2 ⟨rfl, hb⟩
  replace HB := Lib.hid (on_below HB.out hb)
  replace HT := Lib.hid (HT.out.below hb)
  replace HM := Lib.hid (HM.out.below hb)
  replace HN := Lib.hid (HN.out.below hb)
  replace p0 := keepc hb p0
  replace p1 := keepc hb p1
  replace p2 := keepc hb p2
  replace q0 := keepc hb q0
  replace q1 := keepc hb q1
  replace q2 := keepc hb q2
  replace r0 := keepc hb r0
  replace r1 := keepc hb r1
  replace s0 := keepc hb s0
  replace s1 := keepc hb s1
  replace y0 := keepc hb y0
  replace y1 := keepc hb y1
  replace y2 := keepc hb y2
  replace kp := blk_on kp hb
  replace kq := blk_on kq hb
  replace kr := blk_on kr hb
  replace ks := blk_on ks hb
  replace ky := blk_on ky hb
  replace lp := Nat.lt_of_lt_of_le lp hb.size
  replace lq := Nat.lt_of_lt_of_le lq hb.size
  replace lr := Nat.lt_of_lt_of_le lr hb.size
  replace ls := Nat.lt_of_lt_of_le ls hb.size
  replace ly := Nat.lt_of_lt_of_le ly hb.size
  clear hb
  go_wp2_with fail
  with_reducible refine (HF.out _ HM.out).mono ?_
  rintro e_ w3 ⟨rfl, hb⟩
  replace HB := Lib.hid (on_below HB.out hb)
  replace HT := Lib.hid (HT.out.below hb)
  replace HM := Lib.hid (HM.out.below hb)
  replace HN := Lib.hid (HN.out.below hb)
  replace p0 := keepc hb p0
  replace p1 := keepc hb p1
  replace p2 := keepc hb p2
  replace q0 := keepc hb q0
  replace q1 := keepc hb q1
  replace q2 := keepc hb q2
  replace r0 := keepc hb r0
  replace r1 := keepc hb r1
  replace s0 := keepc hb s0
  replace s1 := keepc hb s1
  replace y0 := keepc hb y0
  replace y1 := keepc hb y1
  replace y2 := keepc hb y2
  replace kp := blk_on kp hb
  replace kq := blk_on kq hb
  replace kr := blk_on kr hb
  replace ks := blk_on ks hb
  replace ky := blk_on ky hb
  replace lp := Nat.lt_of_lt_of_le lp hb.size
  replace lq := Nat.lt_of_lt_of_le lq hb.size
  replace lr := Nat.lt_of_lt_of_le lr hb.size
  replace ls := Nat.lt_of_lt_of_le ls hb.size
  replace ly := Nat.lt_of_lt_of_le ly hb.size
  clear hb
  go_wp2_with fail
  go_ret
  exact ⟨rfl, HB.out⟩
set_option maxRecDepth 100000 in
set_option maxHeartbeats 4000000 in
theorem gl_1 (tA : Option Addr) (tC : Nat) (t : List Q4) (m ex ey ez tx ty tz rn rd sn sd : Int) (bA : Option Addr) (bC : Nat) (b : List Bv) (nA : Option Addr) (nC : Nat) (n : List (Int × Int)) (nl nh : Int) (h4 : t.length ≤ 9223372036854775807) (h5 : b.length ≤ 9223372036854775807) (h6 : ∀ k, k < b.length → (gdB b k).xs.length ≤ 9223372036854775807) (h7 : n.length ≤ 9223372036854775807) (i1 : I64 rn) (i2 : I64 rd) (i3 : I64 sn) (i4 : I64 sd) (hf : FewS t.length b) (hg : ¬ FewS 0 [⟨nA, nC, n, nl, nh⟩]) (w : World) (ht : S4 w tA t) (hm : BdS w bA b) (hn : SlS w nA n) :
    Calls Try.prog 11 #[.slice tA t.length tC, .int .i64 m, .agg #[.int .i64 ex, .int .i64 ey, .int .i64 ez], .agg #[.int .i64 tx, .int .i64 ty, .int .i64 tz], .agg #[.int .i64 rn, .int .i64 rd], .agg #[.int .i64 sn, .int .i64 sd], .slice bA b.length bC, .agg #[.slice nA n.length nC, .int .i64 nl, .int .i64 nh]] w fun e_ w' => e_ = .returned (.bool true) ∧ Below w.heap.size w w' := by
  have HF := Lib.hid (fun W (h : BdS W bA b) => few10_is tA tC t bA bC b h4 h5 h6 true (by simp [hf]) W h)
  have HG := Lib.hid (fun g W (h : BdS W (some ⟨g, 0, none⟩) [⟨nA, nC, n, nl, nh⟩]) => few10_is none 0 [] (some ⟨g, 0, none⟩) 1 [⟨nA, nC, n, nl, nh⟩] (by simp) (by simp) (one_of (show n.length ≤ 9223372036854775807 from h7)) false (by simp only [List.length_nil]; simp [hg]) W h)
  simp only [List.length_cons, List.length_nil, Nat.zero_add] at HG
  clear hf hg
  have HT := Lib.hid ht
  clear ht
  have HM := Lib.hid hm
  clear hm
  have HN := Lib.hid hn
  clear hn
  go_enter Try.func11, Try.ntmps11
  go_wp2_with fail
  obtain ⟨w1, hw1⟩ : ∃ V, (((((w.alloc (.cells #[.int .i64 ex, .int .i64 ey, .int .i64 ez] 27)).alloc (.cells #[.int .i64 tx, .int .i64 ty, .int .i64 tz] 27)).alloc (.cells #[.int .i64 rn, .int .i64 rd] 36)).alloc (.cells #[.int .i64 sn, .int .i64 sd] 36)).alloc (.cells #[.slice nA n.length nC, .int .i64 nl, .int .i64 nh] 59)) = V := ⟨_, rfl⟩
  obtain ⟨hB_, kp, kq, kr, ks, ky⟩ := boxes5 _ _ _ _ _ _ hw1
  rw [hw1]
  clear hw1
  have HB := Lib.hid hB_
  clear hB_
  have p0 := (cells3 kp).1
  have p1 := (cells3 kp).2.1
  have p2 := (cells3 kp).2.2
  have lp := block_lt p0
  have q0 := (cells3 kq).1
  have q1 := (cells3 kq).2.1
  have q2 := (cells3 kq).2.2
  have lq := block_lt q0
  have r0 := (two_cells kr).1
  have r1 := (two_cells kr).2.1
  have lr := block_lt r0
  have s0 := (two_cells ks).1
  have s1 := (two_cells ks).2.1
  have ls := block_lt s0
  have y0 := (cells3 ky).1
  have y1 := (cells3 ky).2.1
  have y2 := (cells3 ky).2.2
  have ly := block_lt y0
  replace HT := Lib.hid (HT.out.below HB.out)
  replace HM := Lib.hid (HM.out.below HB.out)
  replace HN := Lib.hid (HN.out.below HB.out)
  with_reducible refine (head10_any _).mono ?_
  rintro e_ w2 ⟨rfl, hb⟩
  replace HB := Lib.hid (on_below HB.out hb)
  replace HT := Lib.hid (HT.out.below hb)
  replace HM := Lib.hid (HM.out.below hb)
  replace HN := Lib.hid (HN.out.below hb)
  replace p0 := keepc hb p0
  replace p1 := keepc hb p1
  replace p2 := keepc hb p2
  replace q0 := keepc hb q0
  replace q1 := keepc hb q1
  replace q2 := keepc hb q2
  replace r0 := keepc hb r0
  replace r1 := keepc hb r1
  replace s0 := keepc hb s0
  replace s1 := keepc hb s1
  replace y0 := keepc hb y0
  replace y1 := keepc hb y1
  replace y2 := keepc hb y2
  replace kp := blk_on kp hb
  replace kq := blk_on kq hb
  replace kr := blk_on kr hb
  replace ks := blk_on ks hb
  replace ky := blk_on ky hb
  replace lp := Nat.lt_of_lt_of_le lp hb.size
  replace lq := Nat.lt_of_lt_of_le lq hb.size
  replace lr := Nat.lt_of_lt_of_le lr hb.size
  replace ls := Nat.lt_of_lt_of_le ls hb.size
  replace ly := Nat.lt_of_lt_of_le ly hb.size
  clear hb
  go_wp2_with fail
  with_reducible refine (HF.out _ HM.out).mono ?_
  rintro e_ w3 ⟨rfl, hb⟩
  replace HB := Lib.hid (on_below HB.out hb)
  replace HT := Lib.hid (HT.out.below hb)
  replace HM := Lib.hid (HM.out.below hb)
  replace HN := Lib.hid (HN.out.below hb)
  replace p0 := keepc hb p0
  replace p1 := keepc hb p1
  replace p2 := keepc hb p2
  replace q0 := keepc hb q0
  replace q1 := keepc hb q1
  replace q2 := keepc hb q2
  replace r0 := keepc hb r0
  replace r1 := keepc hb r1
  replace s0 := keepc hb s0
  replace s1 := keepc hb s1
  replace y0 := keepc hb y0
  replace y1 := keepc hb y1
  replace y2 := keepc hb y2
  replace kp := blk_on kp hb
  replace kq := blk_on kq hb
  replace kr := blk_on kr hb
  replace ks := blk_on ks hb
  replace ky := blk_on ky hb
  replace lp := Nat.lt_of_lt_of_le lp hb.size
  replace lq := Nat.lt_of_lt_of_le lq hb.size
  replace lr := Nat.lt_of_lt_of_le lr hb.size
  replace ls := Nat.lt_of_lt_of_le ls hb.size
  replace ly := Nat.lt_of_lt_of_le ly hb.size
  clear hb
  go_wp2_with fail
  have e0 : World.cell? (w3.alloc (.cells #[.slice nA n.length nC, .int .i64 nl, .int .i64 nh] 59)) ⟨w3.heap.size, 0, none⟩ = some (.slice nA n.length nC) := by simp [go_sem]
  have e1 : World.cell? (w3.alloc (.cells #[.slice nA n.length nC, .int .i64 nl, .int .i64 nh] 59)) ⟨w3.heap.size, 1, none⟩ = some (.int .i64 nl) := by simp [go_sem]
  have e2 : World.cell? (w3.alloc (.cells #[.slice nA n.length nC, .int .i64 nl, .int .i64 nh] 59)) ⟨w3.heap.size, 2, none⟩ = some (.int .i64 nh) := by simp [go_sem]
  have le : w3.heap.size < (w3.alloc (.cells #[.slice nA n.length nC, .int .i64 nl, .int .i64 nh] 59)).heap.size := by simp
  have hb : Below w3.heap.size w3 (w3.alloc (.cells #[.slice nA n.length nC, .int .i64 nl, .int .i64 nh] 59)) := below_new _ _
  generalize w3.alloc (.cells #[.slice nA n.length nC, .int .i64 nl, .int .i64 nh] 59) = w4 at *
  replace HB := Lib.hid (on_below HB.out hb)
  replace HT := Lib.hid (HT.out.below hb)
  replace HM := Lib.hid (HM.out.below hb)
  replace HN := Lib.hid (HN.out.below hb)
  replace p0 := keepc hb p0
  replace p1 := keepc hb p1
  replace p2 := keepc hb p2
  replace q0 := keepc hb q0
  replace q1 := keepc hb q1
  replace q2 := keepc hb q2
  replace r0 := keepc hb r0
  replace r1 := keepc hb r1
  replace s0 := keepc hb s0
  replace s1 := keepc hb s1
  replace y0 := keepc hb y0
  replace y1 := keepc hb y1
  replace y2 := keepc hb y2
  replace kp := blk_on kp hb
  replace kq := blk_on kq hb
  replace kr := blk_on kr hb
  replace ks := blk_on ks hb
  replace ky := blk_on ky hb
  replace lp := Nat.lt_of_lt_of_le lp hb.size
  replace lq := Nat.lt_of_lt_of_le lq hb.size
  replace lr := Nat.lt_of_lt_of_le lr hb.size
  replace ls := Nat.lt_of_lt_of_le ls hb.size
  replace ly := Nat.lt_of_lt_of_le ly hb.size
  clear hb
  generalize w3.heap.size = ge at *
  have HE := Lib.hid (bds_one (b := ⟨nA, nC, n, nl, nh⟩) e0 e1 e2 HN.out)
  with_reducible refine (HG.out _ _ HE.out).mono ?_
  rintro e_ w5 ⟨rfl, hb⟩
  replace HB := Lib.hid (on_below HB.out hb)
  replace HT := Lib.hid (HT.out.below hb)
  replace HM := Lib.hid (HM.out.below hb)
  replace HN := Lib.hid (HN.out.below hb)
  replace HE := Lib.hid (HE.out.below hb)
  replace p0 := keepc hb p0
  replace p1 := keepc hb p1
  replace p2 := keepc hb p2
  replace q0 := keepc hb q0
  replace q1 := keepc hb q1
  replace q2 := keepc hb q2
  replace r0 := keepc hb r0
  replace r1 := keepc hb r1
  replace s0 := keepc hb s0
  replace s1 := keepc hb s1
  replace y0 := keepc hb y0
  replace y1 := keepc hb y1
  replace y2 := keepc hb y2
  replace e0 := keepc hb e0
  replace e1 := keepc hb e1
  replace e2 := keepc hb e2
  replace kp := blk_on kp hb
  replace kq := blk_on kq hb
  replace kr := blk_on kr hb
  replace ks := blk_on ks hb
  replace ky := blk_on ky hb
  replace lp := Nat.lt_of_lt_of_le lp hb.size
  replace lq := Nat.lt_of_lt_of_le lq hb.size
  replace lr := Nat.lt_of_lt_of_le lr hb.size
  replace ls := Nat.lt_of_lt_of_le ls hb.size
  replace ly := Nat.lt_of_lt_of_le ly hb.size
  replace le := Nat.lt_of_lt_of_le le hb.size
  clear hb
  go_wp2_with fail
  go_ret
  exact ⟨rfl, HB.out⟩
set_option maxRecDepth 100000 in
set_option maxHeartbeats 4000000 in
theorem gl_2 (tA : Option Addr) (tC : Nat) (t : List Q4) (m ex ey ez tx ty tz rn rd sn sd : Int) (bA : Option Addr) (bC : Nat) (b : List Bv) (nA : Option Addr) (nC : Nat) (n : List (Int × Int)) (nl nh : Int) (h4 : t.length ≤ 9223372036854775807) (h5 : b.length ≤ 9223372036854775807) (h6 : ∀ k, k < b.length → (gdB b k).xs.length ≤ 9223372036854775807) (h7 : n.length ≤ 9223372036854775807) (i1 : I64 rn) (i2 : I64 rd) (i3 : I64 sn) (i4 : I64 sd) (hf : FewS t.length b) (hg : FewS 0 [⟨nA, nC, n, nl, nh⟩]) (u v : Bool) (E G : Int) (h1 : GlrR t m ex ey ez tx ty tz rn rd b u E) (h2 : GlrR t m ex ey ez tx ty tz sn sd b v G) (hE : E ≠ 0) (w : World) (ht : S4 w tA t) (hm : BdS w bA b) (hn : SlS w nA n) :
    Calls Try.prog 11 #[.slice tA t.length tC, .int .i64 m, .agg #[.int .i64 ex, .int .i64 ey, .int .i64 ez], .agg #[.int .i64 tx, .int .i64 ty, .int .i64 tz], .agg #[.int .i64 rn, .int .i64 rd], .agg #[.int .i64 sn, .int .i64 sd], .slice bA b.length bC, .agg #[.slice nA n.length nC, .int .i64 nl, .int .i64 nh]] w fun e_ w' => e_ = .returned (.bool true) ∧ Below w.heap.size w w' := by
  have HF := Lib.hid (fun W (h : BdS W bA b) => few10_is tA tC t bA bC b h4 h5 h6 true (by simp [hf]) W h)
  have HG := Lib.hid (fun g W (h : BdS W (some ⟨g, 0, none⟩) [⟨nA, nC, n, nl, nh⟩]) => few10_is none 0 [] (some ⟨g, 0, none⟩) 1 [⟨nA, nC, n, nl, nh⟩] (by simp) (by simp) (one_of (show n.length ≤ 9223372036854775807 from h7)) true (by simp only [List.length_nil]; simp [hg]) W h)
  simp only [List.length_cons, List.length_nil, Nat.zero_add] at HG
  have C1 := Lib.hid (fun W (a : S4 W tA t) (c : BdS W bA b) => glr_is tA tC t m ex ey ez tx ty tz rn rd bA bC b h4 h5 (fun _ => fews_bsm hf) i1 i2 u E h1 W a c)
  have C2 := Lib.hid (fun W (a : S4 W tA t) (c : BdS W bA b) => glr_is tA tC t m ex ey ez tx ty tz sn sd bA bC b h4 h5 (fun _ => fews_bsm hf) i3 i4 v G h2 W a c)
  have z0 : (E != 0) = true := by simp [hE]
  clear hf hg h1 h2 hE
  have HT := Lib.hid ht
  clear ht
  have HM := Lib.hid hm
  clear hm
  have HN := Lib.hid hn
  clear hn
  go_enter Try.func11, Try.ntmps11
  go_wp2_with fail
  obtain ⟨w1, hw1⟩ : ∃ V, (((((w.alloc (.cells #[.int .i64 ex, .int .i64 ey, .int .i64 ez] 27)).alloc (.cells #[.int .i64 tx, .int .i64 ty, .int .i64 tz] 27)).alloc (.cells #[.int .i64 rn, .int .i64 rd] 36)).alloc (.cells #[.int .i64 sn, .int .i64 sd] 36)).alloc (.cells #[.slice nA n.length nC, .int .i64 nl, .int .i64 nh] 59)) = V := ⟨_, rfl⟩
  obtain ⟨hB_, kp, kq, kr, ks, ky⟩ := boxes5 _ _ _ _ _ _ hw1
  rw [hw1]
  clear hw1
  have HB := Lib.hid hB_
  clear hB_
  have p0 := (cells3 kp).1
  have p1 := (cells3 kp).2.1
  have p2 := (cells3 kp).2.2
  have lp := block_lt p0
  have q0 := (cells3 kq).1
  have q1 := (cells3 kq).2.1
  have q2 := (cells3 kq).2.2
  have lq := block_lt q0
  have r0 := (two_cells kr).1
  have r1 := (two_cells kr).2.1
  have lr := block_lt r0
  have s0 := (two_cells ks).1
  have s1 := (two_cells ks).2.1
  have ls := block_lt s0
  have y0 := (cells3 ky).1
  have y1 := (cells3 ky).2.1
  have y2 := (cells3 ky).2.2
  have ly := block_lt y0
  replace HT := Lib.hid (HT.out.below HB.out)
  replace HM := Lib.hid (HM.out.below HB.out)
  replace HN := Lib.hid (HN.out.below HB.out)
  with_reducible refine (head10_any _).mono ?_
  rintro e_ w2 ⟨rfl, hb⟩
  replace HB := Lib.hid (on_below HB.out hb)
  replace HT := Lib.hid (HT.out.below hb)
  replace HM := Lib.hid (HM.out.below hb)
  replace HN := Lib.hid (HN.out.below hb)
  replace p0 := keepc hb p0
  replace p1 := keepc hb p1
  replace p2 := keepc hb p2
  replace q0 := keepc hb q0
  replace q1 := keepc hb q1
  replace q2 := keepc hb q2
  replace r0 := keepc hb r0
  replace r1 := keepc hb r1
  replace s0 := keepc hb s0
  replace s1 := keepc hb s1
  replace y0 := keepc hb y0
  replace y1 := keepc hb y1
  replace y2 := keepc hb y2
  replace kp := blk_on kp hb
  replace kq := blk_on kq hb
  replace kr := blk_on kr hb
  replace ks := blk_on ks hb
  replace ky := blk_on ky hb
  replace lp := Nat.lt_of_lt_of_le lp hb.size
  replace lq := Nat.lt_of_lt_of_le lq hb.size
  replace lr := Nat.lt_of_lt_of_le lr hb.size
  replace ls := Nat.lt_of_lt_of_le ls hb.size
  replace ly := Nat.lt_of_lt_of_le ly hb.size
  clear hb
  go_wp2_with fail
  with_reducible refine (HF.out _ HM.out).mono ?_
  rintro e_ w3 ⟨rfl, hb⟩
  replace HB := Lib.hid (on_below HB.out hb)
  replace HT := Lib.hid (HT.out.below hb)
  replace HM := Lib.hid (HM.out.below hb)
  replace HN := Lib.hid (HN.out.below hb)
  replace p0 := keepc hb p0
  replace p1 := keepc hb p1
  replace p2 := keepc hb p2
  replace q0 := keepc hb q0
  replace q1 := keepc hb q1
  replace q2 := keepc hb q2
  replace r0 := keepc hb r0
  replace r1 := keepc hb r1
  replace s0 := keepc hb s0
  replace s1 := keepc hb s1
  replace y0 := keepc hb y0
  replace y1 := keepc hb y1
  replace y2 := keepc hb y2
  replace kp := blk_on kp hb
  replace kq := blk_on kq hb
  replace kr := blk_on kr hb
  replace ks := blk_on ks hb
  replace ky := blk_on ky hb
  replace lp := Nat.lt_of_lt_of_le lp hb.size
  replace lq := Nat.lt_of_lt_of_le lq hb.size
  replace lr := Nat.lt_of_lt_of_le lr hb.size
  replace ls := Nat.lt_of_lt_of_le ls hb.size
  replace ly := Nat.lt_of_lt_of_le ly hb.size
  clear hb
  go_wp2_with fail
  have e0 : World.cell? (w3.alloc (.cells #[.slice nA n.length nC, .int .i64 nl, .int .i64 nh] 59)) ⟨w3.heap.size, 0, none⟩ = some (.slice nA n.length nC) := by simp [go_sem]
  have e1 : World.cell? (w3.alloc (.cells #[.slice nA n.length nC, .int .i64 nl, .int .i64 nh] 59)) ⟨w3.heap.size, 1, none⟩ = some (.int .i64 nl) := by simp [go_sem]
  have e2 : World.cell? (w3.alloc (.cells #[.slice nA n.length nC, .int .i64 nl, .int .i64 nh] 59)) ⟨w3.heap.size, 2, none⟩ = some (.int .i64 nh) := by simp [go_sem]
  have le : w3.heap.size < (w3.alloc (.cells #[.slice nA n.length nC, .int .i64 nl, .int .i64 nh] 59)).heap.size := by simp
  have hb : Below w3.heap.size w3 (w3.alloc (.cells #[.slice nA n.length nC, .int .i64 nl, .int .i64 nh] 59)) := below_new _ _
  generalize w3.alloc (.cells #[.slice nA n.length nC, .int .i64 nl, .int .i64 nh] 59) = w4 at *
  replace HB := Lib.hid (on_below HB.out hb)
  replace HT := Lib.hid (HT.out.below hb)
  replace HM := Lib.hid (HM.out.below hb)
  replace HN := Lib.hid (HN.out.below hb)
  replace p0 := keepc hb p0
  replace p1 := keepc hb p1
  replace p2 := keepc hb p2
  replace q0 := keepc hb q0
  replace q1 := keepc hb q1
  replace q2 := keepc hb q2
  replace r0 := keepc hb r0
  replace r1 := keepc hb r1
  replace s0 := keepc hb s0
  replace s1 := keepc hb s1
  replace y0 := keepc hb y0
  replace y1 := keepc hb y1
  replace y2 := keepc hb y2
  replace kp := blk_on kp hb
  replace kq := blk_on kq hb
  replace kr := blk_on kr hb
  replace ks := blk_on ks hb
  replace ky := blk_on ky hb
  replace lp := Nat.lt_of_lt_of_le lp hb.size
  replace lq := Nat.lt_of_lt_of_le lq hb.size
  replace lr := Nat.lt_of_lt_of_le lr hb.size
  replace ls := Nat.lt_of_lt_of_le ls hb.size
  replace ly := Nat.lt_of_lt_of_le ly hb.size
  clear hb
  generalize w3.heap.size = ge at *
  have HE := Lib.hid (bds_one (b := ⟨nA, nC, n, nl, nh⟩) e0 e1 e2 HN.out)
  with_reducible refine (HG.out _ _ HE.out).mono ?_
  rintro e_ w5 ⟨rfl, hb⟩
  replace HB := Lib.hid (on_below HB.out hb)
  replace HT := Lib.hid (HT.out.below hb)
  replace HM := Lib.hid (HM.out.below hb)
  replace HN := Lib.hid (HN.out.below hb)
  replace HE := Lib.hid (HE.out.below hb)
  replace p0 := keepc hb p0
  replace p1 := keepc hb p1
  replace p2 := keepc hb p2
  replace q0 := keepc hb q0
  replace q1 := keepc hb q1
  replace q2 := keepc hb q2
  replace r0 := keepc hb r0
  replace r1 := keepc hb r1
  replace s0 := keepc hb s0
  replace s1 := keepc hb s1
  replace y0 := keepc hb y0
  replace y1 := keepc hb y1
  replace y2 := keepc hb y2
  replace e0 := keepc hb e0
  replace e1 := keepc hb e1
  replace e2 := keepc hb e2
  replace kp := blk_on kp hb
  replace kq := blk_on kq hb
  replace kr := blk_on kr hb
  replace ks := blk_on ks hb
  replace ky := blk_on ky hb
  replace lp := Nat.lt_of_lt_of_le lp hb.size
  replace lq := Nat.lt_of_lt_of_le lq hb.size
  replace lr := Nat.lt_of_lt_of_le lr hb.size
  replace ls := Nat.lt_of_lt_of_le ls hb.size
  replace ly := Nat.lt_of_lt_of_le ly hb.size
  replace le := Nat.lt_of_lt_of_le le hb.size
  clear hb
  go_wp2_with fail
  with_reducible refine (C1.out _ HT.out HM.out).mono ?_
  rintro e_ w6 ⟨rfl, hb⟩
  replace HB := Lib.hid (on_below HB.out hb)
  replace HT := Lib.hid (HT.out.below hb)
  replace HM := Lib.hid (HM.out.below hb)
  replace HN := Lib.hid (HN.out.below hb)
  replace HE := Lib.hid (HE.out.below hb)
  replace p0 := keepc hb p0
  replace p1 := keepc hb p1
  replace p2 := keepc hb p2
  replace q0 := keepc hb q0
  replace q1 := keepc hb q1
  replace q2 := keepc hb q2
  replace r0 := keepc hb r0
  replace r1 := keepc hb r1
  replace s0 := keepc hb s0
  replace s1 := keepc hb s1
  replace y0 := keepc hb y0
  replace y1 := keepc hb y1
  replace y2 := keepc hb y2
  replace e0 := keepc hb e0
  replace e1 := keepc hb e1
  replace e2 := keepc hb e2
  replace kp := blk_on kp hb
  replace kq := blk_on kq hb
  replace kr := blk_on kr hb
  replace ks := blk_on ks hb
  replace ky := blk_on ky hb
  replace lp := Nat.lt_of_lt_of_le lp hb.size
  replace lq := Nat.lt_of_lt_of_le lq hb.size
  replace lr := Nat.lt_of_lt_of_le lr hb.size
  replace ls := Nat.lt_of_lt_of_le ls hb.size
  replace ly := Nat.lt_of_lt_of_le ly hb.size
  replace le := Nat.lt_of_lt_of_le le hb.size
  clear hb
  go_wp2_with fail
  with_reducible refine (C2.out _ HT.out HM.out).mono ?_
  rintro e_ w7 ⟨rfl, hb⟩
  replace HB := Lib.hid (on_below HB.out hb)
  replace HT := Lib.hid (HT.out.below hb)
  replace HM := Lib.hid (HM.out.below hb)
  replace HN := Lib.hid (HN.out.below hb)
  replace HE := Lib.hid (HE.out.below hb)
  replace p0 := keepc hb p0
  replace p1 := keepc hb p1
  replace p2 := keepc hb p2
  replace q0 := keepc hb q0
  replace q1 := keepc hb q1
  replace q2 := keepc hb q2
  replace r0 := keepc hb r0
  replace r1 := keepc hb r1
  replace s0 := keepc hb s0
  replace s1 := keepc hb s1
  replace y0 := keepc hb y0
  replace y1 := keepc hb y1
  replace y2 := keepc hb y2
  replace e0 := keepc hb e0
  replace e1 := keepc hb e1
  replace e2 := keepc hb e2
  replace kp := blk_on kp hb
  replace kq := blk_on kq hb
  replace kr := blk_on kr hb
  replace ks := blk_on ks hb
  replace ky := blk_on ky hb
  replace lp := Nat.lt_of_lt_of_le lp hb.size
  replace lq := Nat.lt_of_lt_of_le lq hb.size
  replace lr := Nat.lt_of_lt_of_le lr hb.size
  replace ls := Nat.lt_of_lt_of_le ls hb.size
  replace ly := Nat.lt_of_lt_of_le ly hb.size
  replace le := Nat.lt_of_lt_of_le le hb.size
  clear hb
  go_wp2_with fail
  go_ret
  exact ⟨rfl, HB.out⟩
set_option maxRecDepth 100000 in
set_option maxHeartbeats 4000000 in
theorem gl_3 (tA : Option Addr) (tC : Nat) (t : List Q4) (m ex ey ez tx ty tz rn rd sn sd : Int) (bA : Option Addr) (bC : Nat) (b : List Bv) (nA : Option Addr) (nC : Nat) (n : List (Int × Int)) (nl nh : Int) (h4 : t.length ≤ 9223372036854775807) (h5 : b.length ≤ 9223372036854775807) (h6 : ∀ k, k < b.length → (gdB b k).xs.length ≤ 9223372036854775807) (h7 : n.length ≤ 9223372036854775807) (i1 : I64 rn) (i2 : I64 rd) (i3 : I64 sn) (i4 : I64 sd) (hf : FewS t.length b) (hg : FewS 0 [⟨nA, nC, n, nl, nh⟩]) (u v : Bool) (G : Int) (h1 : GlrR t m ex ey ez tx ty tz rn rd b u 0) (h2 : GlrR t m ex ey ez tx ty tz sn sd b v G) (hE : G ≠ 0) (w : World) (ht : S4 w tA t) (hm : BdS w bA b) (hn : SlS w nA n) :
    Calls Try.prog 11 #[.slice tA t.length tC, .int .i64 m, .agg #[.int .i64 ex, .int .i64 ey, .int .i64 ez], .agg #[.int .i64 tx, .int .i64 ty, .int .i64 tz], .agg #[.int .i64 rn, .int .i64 rd], .agg #[.int .i64 sn, .int .i64 sd], .slice bA b.length bC, .agg #[.slice nA n.length nC, .int .i64 nl, .int .i64 nh]] w fun e_ w' => e_ = .returned (.bool true) ∧ Below w.heap.size w w' := by
  have HF := Lib.hid (fun W (h : BdS W bA b) => few10_is tA tC t bA bC b h4 h5 h6 true (by simp [hf]) W h)
  have HG := Lib.hid (fun g W (h : BdS W (some ⟨g, 0, none⟩) [⟨nA, nC, n, nl, nh⟩]) => few10_is none 0 [] (some ⟨g, 0, none⟩) 1 [⟨nA, nC, n, nl, nh⟩] (by simp) (by simp) (one_of (show n.length ≤ 9223372036854775807 from h7)) true (by simp only [List.length_nil]; simp [hg]) W h)
  simp only [List.length_cons, List.length_nil, Nat.zero_add] at HG
  have C1 := Lib.hid (fun W (a : S4 W tA t) (c : BdS W bA b) => glr_is tA tC t m ex ey ez tx ty tz rn rd bA bC b h4 h5 (fun _ => fews_bsm hf) i1 i2 u 0 h1 W a c)
  have C2 := Lib.hid (fun W (a : S4 W tA t) (c : BdS W bA b) => glr_is tA tC t m ex ey ez tx ty tz sn sd bA bC b h4 h5 (fun _ => fews_bsm hf) i3 i4 v G h2 W a c)
  have z0 : (G != 0) = true := by simp [hE]
  clear hf hg h1 h2 hE
  have HT := Lib.hid ht
  clear ht
  have HM := Lib.hid hm
  clear hm
  have HN := Lib.hid hn
  clear hn
  go_enter Try.func11, Try.ntmps11
  go_wp2_with fail
  obtain ⟨w1, hw1⟩ : ∃ V, (((((w.alloc (.cells #[.int .i64 ex, .int .i64 ey, .int .i64 ez] 27)).alloc (.cells #[.int .i64 tx, .int .i64 ty, .int .i64 tz] 27)).alloc (.cells #[.int .i64 rn, .int .i64 rd] 36)).alloc (.cells #[.int .i64 sn, .int .i64 sd] 36)).alloc (.cells #[.slice nA n.length nC, .int .i64 nl, .int .i64 nh] 59)) = V := ⟨_, rfl⟩
  obtain ⟨hB_, kp, kq, kr, ks, ky⟩ := boxes5 _ _ _ _ _ _ hw1
  rw [hw1]
  clear hw1
  have HB := Lib.hid hB_
  clear hB_
  have p0 := (cells3 kp).1
  have p1 := (cells3 kp).2.1
  have p2 := (cells3 kp).2.2
  have lp := block_lt p0
  have q0 := (cells3 kq).1
  have q1 := (cells3 kq).2.1
  have q2 := (cells3 kq).2.2
  have lq := block_lt q0
  have r0 := (two_cells kr).1
  have r1 := (two_cells kr).2.1
  have lr := block_lt r0
  have s0 := (two_cells ks).1
  have s1 := (two_cells ks).2.1
  have ls := block_lt s0
  have y0 := (cells3 ky).1
  have y1 := (cells3 ky).2.1
  have y2 := (cells3 ky).2.2
  have ly := block_lt y0
  replace HT := Lib.hid (HT.out.below HB.out)
  replace HM := Lib.hid (HM.out.below HB.out)
  replace HN := Lib.hid (HN.out.below HB.out)
  with_reducible refine (head10_any _).mono ?_
  rintro e_ w2 ⟨rfl, hb⟩
  replace HB := Lib.hid (on_below HB.out hb)
  replace HT := Lib.hid (HT.out.below hb)
  replace HM := Lib.hid (HM.out.below hb)
  replace HN := Lib.hid (HN.out.below hb)
  replace p0 := keepc hb p0
  replace p1 := keepc hb p1
  replace p2 := keepc hb p2
  replace q0 := keepc hb q0
  replace q1 := keepc hb q1
  replace q2 := keepc hb q2
  replace r0 := keepc hb r0
  replace r1 := keepc hb r1
  replace s0 := keepc hb s0
  replace s1 := keepc hb s1
  replace y0 := keepc hb y0
  replace y1 := keepc hb y1
  replace y2 := keepc hb y2
  replace kp := blk_on kp hb
  replace kq := blk_on kq hb
  replace kr := blk_on kr hb
  replace ks := blk_on ks hb
  replace ky := blk_on ky hb
  replace lp := Nat.lt_of_lt_of_le lp hb.size
  replace lq := Nat.lt_of_lt_of_le lq hb.size
  replace lr := Nat.lt_of_lt_of_le lr hb.size
  replace ls := Nat.lt_of_lt_of_le ls hb.size
  replace ly := Nat.lt_of_lt_of_le ly hb.size
  clear hb
  go_wp2_with fail
  with_reducible refine (HF.out _ HM.out).mono ?_
  rintro e_ w3 ⟨rfl, hb⟩
  replace HB := Lib.hid (on_below HB.out hb)
  replace HT := Lib.hid (HT.out.below hb)
  replace HM := Lib.hid (HM.out.below hb)
  replace HN := Lib.hid (HN.out.below hb)
  replace p0 := keepc hb p0
  replace p1 := keepc hb p1
  replace p2 := keepc hb p2
  replace q0 := keepc hb q0
  replace q1 := keepc hb q1
  replace q2 := keepc hb q2
  replace r0 := keepc hb r0
  replace r1 := keepc hb r1
  replace s0 := keepc hb s0
  replace s1 := keepc hb s1
  replace y0 := keepc hb y0
  replace y1 := keepc hb y1
  replace y2 := keepc hb y2
  replace kp := blk_on kp hb
  replace kq := blk_on kq hb
  replace kr := blk_on kr hb
  replace ks := blk_on ks hb
  replace ky := blk_on ky hb
  replace lp := Nat.lt_of_lt_of_le lp hb.size
  replace lq := Nat.lt_of_lt_of_le lq hb.size
  replace lr := Nat.lt_of_lt_of_le lr hb.size
  replace ls := Nat.lt_of_lt_of_le ls hb.size
  replace ly := Nat.lt_of_lt_of_le ly hb.size
  clear hb
  go_wp2_with fail
  have e0 : World.cell? (w3.alloc (.cells #[.slice nA n.length nC, .int .i64 nl, .int .i64 nh] 59)) ⟨w3.heap.size, 0, none⟩ = some (.slice nA n.length nC) := by simp [go_sem]
  have e1 : World.cell? (w3.alloc (.cells #[.slice nA n.length nC, .int .i64 nl, .int .i64 nh] 59)) ⟨w3.heap.size, 1, none⟩ = some (.int .i64 nl) := by simp [go_sem]
  have e2 : World.cell? (w3.alloc (.cells #[.slice nA n.length nC, .int .i64 nl, .int .i64 nh] 59)) ⟨w3.heap.size, 2, none⟩ = some (.int .i64 nh) := by simp [go_sem]
  have le : w3.heap.size < (w3.alloc (.cells #[.slice nA n.length nC, .int .i64 nl, .int .i64 nh] 59)).heap.size := by simp
  have hb : Below w3.heap.size w3 (w3.alloc (.cells #[.slice nA n.length nC, .int .i64 nl, .int .i64 nh] 59)) := below_new _ _
  generalize w3.alloc (.cells #[.slice nA n.length nC, .int .i64 nl, .int .i64 nh] 59) = w4 at *
  replace HB := Lib.hid (on_below HB.out hb)
  replace HT := Lib.hid (HT.out.below hb)
  replace HM := Lib.hid (HM.out.below hb)
  replace HN := Lib.hid (HN.out.below hb)
  replace p0 := keepc hb p0
  replace p1 := keepc hb p1
  replace p2 := keepc hb p2
  replace q0 := keepc hb q0
  replace q1 := keepc hb q1
  replace q2 := keepc hb q2
  replace r0 := keepc hb r0
  replace r1 := keepc hb r1
  replace s0 := keepc hb s0
  replace s1 := keepc hb s1
  replace y0 := keepc hb y0
  replace y1 := keepc hb y1
  replace y2 := keepc hb y2
  replace kp := blk_on kp hb
  replace kq := blk_on kq hb
  replace kr := blk_on kr hb
  replace ks := blk_on ks hb
  replace ky := blk_on ky hb
  replace lp := Nat.lt_of_lt_of_le lp hb.size
  replace lq := Nat.lt_of_lt_of_le lq hb.size
  replace lr := Nat.lt_of_lt_of_le lr hb.size
  replace ls := Nat.lt_of_lt_of_le ls hb.size
  replace ly := Nat.lt_of_lt_of_le ly hb.size
  clear hb
  generalize w3.heap.size = ge at *
  have HE := Lib.hid (bds_one (b := ⟨nA, nC, n, nl, nh⟩) e0 e1 e2 HN.out)
  with_reducible refine (HG.out _ _ HE.out).mono ?_
  rintro e_ w5 ⟨rfl, hb⟩
  replace HB := Lib.hid (on_below HB.out hb)
  replace HT := Lib.hid (HT.out.below hb)
  replace HM := Lib.hid (HM.out.below hb)
  replace HN := Lib.hid (HN.out.below hb)
  replace HE := Lib.hid (HE.out.below hb)
  replace p0 := keepc hb p0
  replace p1 := keepc hb p1
  replace p2 := keepc hb p2
  replace q0 := keepc hb q0
  replace q1 := keepc hb q1
  replace q2 := keepc hb q2
  replace r0 := keepc hb r0
  replace r1 := keepc hb r1
  replace s0 := keepc hb s0
  replace s1 := keepc hb s1
  replace y0 := keepc hb y0
  replace y1 := keepc hb y1
  replace y2 := keepc hb y2
  replace e0 := keepc hb e0
  replace e1 := keepc hb e1
  replace e2 := keepc hb e2
  replace kp := blk_on kp hb
  replace kq := blk_on kq hb
  replace kr := blk_on kr hb
  replace ks := blk_on ks hb
  replace ky := blk_on ky hb
  replace lp := Nat.lt_of_lt_of_le lp hb.size
  replace lq := Nat.lt_of_lt_of_le lq hb.size
  replace lr := Nat.lt_of_lt_of_le lr hb.size
  replace ls := Nat.lt_of_lt_of_le ls hb.size
  replace ly := Nat.lt_of_lt_of_le ly hb.size
  replace le := Nat.lt_of_lt_of_le le hb.size
  clear hb
  go_wp2_with fail
  with_reducible refine (C1.out _ HT.out HM.out).mono ?_
  rintro e_ w6 ⟨rfl, hb⟩
  replace HB := Lib.hid (on_below HB.out hb)
  replace HT := Lib.hid (HT.out.below hb)
  replace HM := Lib.hid (HM.out.below hb)
  replace HN := Lib.hid (HN.out.below hb)
  replace HE := Lib.hid (HE.out.below hb)
  replace p0 := keepc hb p0
  replace p1 := keepc hb p1
  replace p2 := keepc hb p2
  replace q0 := keepc hb q0
  replace q1 := keepc hb q1
  replace q2 := keepc hb q2
  replace r0 := keepc hb r0
  replace r1 := keepc hb r1
  replace s0 := keepc hb s0
  replace s1 := keepc hb s1
  replace y0 := keepc hb y0
  replace y1 := keepc hb y1
  replace y2 := keepc hb y2
  replace e0 := keepc hb e0
  replace e1 := keepc hb e1
  replace e2 := keepc hb e2
  replace kp := blk_on kp hb
  replace kq := blk_on kq hb
  replace kr := blk_on kr hb
  replace ks := blk_on ks hb
  replace ky := blk_on ky hb
  replace lp := Nat.lt_of_lt_of_le lp hb.size
  replace lq := Nat.lt_of_lt_of_le lq hb.size
  replace lr := Nat.lt_of_lt_of_le lr hb.size
  replace ls := Nat.lt_of_lt_of_le ls hb.size
  replace ly := Nat.lt_of_lt_of_le ly hb.size
  replace le := Nat.lt_of_lt_of_le le hb.size
  clear hb
  go_wp2_with fail
  with_reducible refine (C2.out _ HT.out HM.out).mono ?_
  rintro e_ w7 ⟨rfl, hb⟩
  replace HB := Lib.hid (on_below HB.out hb)
  replace HT := Lib.hid (HT.out.below hb)
  replace HM := Lib.hid (HM.out.below hb)
  replace HN := Lib.hid (HN.out.below hb)
  replace HE := Lib.hid (HE.out.below hb)
  replace p0 := keepc hb p0
  replace p1 := keepc hb p1
  replace p2 := keepc hb p2
  replace q0 := keepc hb q0
  replace q1 := keepc hb q1
  replace q2 := keepc hb q2
  replace r0 := keepc hb r0
  replace r1 := keepc hb r1
  replace s0 := keepc hb s0
  replace s1 := keepc hb s1
  replace y0 := keepc hb y0
  replace y1 := keepc hb y1
  replace y2 := keepc hb y2
  replace e0 := keepc hb e0
  replace e1 := keepc hb e1
  replace e2 := keepc hb e2
  replace kp := blk_on kp hb
  replace kq := blk_on kq hb
  replace kr := blk_on kr hb
  replace ks := blk_on ks hb
  replace ky := blk_on ky hb
  replace lp := Nat.lt_of_lt_of_le lp hb.size
  replace lq := Nat.lt_of_lt_of_le lq hb.size
  replace lr := Nat.lt_of_lt_of_le lr hb.size
  replace ls := Nat.lt_of_lt_of_le ls hb.size
  replace ly := Nat.lt_of_lt_of_le ly hb.size
  replace le := Nat.lt_of_lt_of_le le hb.size
  clear hb
  go_wp2_with fail
  go_ret
  exact ⟨rfl, HB.out⟩
set_option maxRecDepth 100000 in
set_option maxHeartbeats 4000000 in
theorem gl_4 (tA : Option Addr) (tC : Nat) (t : List Q4) (m ex ey ez tx ty tz rn rd sn sd : Int) (bA : Option Addr) (bC : Nat) (b : List Bv) (nA : Option Addr) (nC : Nat) (n : List (Int × Int)) (nl nh : Int) (h4 : t.length ≤ 9223372036854775807) (h5 : b.length ≤ 9223372036854775807) (h6 : ∀ k, k < b.length → (gdB b k).xs.length ≤ 9223372036854775807) (h7 : n.length ≤ 9223372036854775807) (i1 : I64 rn) (i2 : I64 rd) (i3 : I64 sn) (i4 : I64 sd) (hf : FewS t.length b) (hg : FewS 0 [⟨nA, nC, n, nl, nh⟩]) (u v : Bool) (h1 : GlrR t m ex ey ez tx ty tz rn rd b u 0) (h2 : GlrR t m ex ey ez tx ty tz sn sd b v 0) (kr : 0 ≤ rn ∧ rn ≤ 10000 ∧ 0 < rd ∧ rd ≤ 10000) (ks : 0 ≤ sn ∧ sn ≤ 10000 ∧ 0 < sd ∧ sd ≤ 10000) (hle : sn * rd < rn * sd) (w : World) (ht : S4 w tA t) (hm : BdS w bA b) (hn : SlS w nA n) :
    Calls Try.prog 11 #[.slice tA t.length tC, .int .i64 m, .agg #[.int .i64 ex, .int .i64 ey, .int .i64 ez], .agg #[.int .i64 tx, .int .i64 ty, .int .i64 tz], .agg #[.int .i64 rn, .int .i64 rd], .agg #[.int .i64 sn, .int .i64 sd], .slice bA b.length bC, .agg #[.slice nA n.length nC, .int .i64 nl, .int .i64 nh]] w fun e_ w' => e_ = .returned (.bool true) ∧ Below w.heap.size w w' := by
  have HF := Lib.hid (fun W (h : BdS W bA b) => few10_is tA tC t bA bC b h4 h5 h6 true (by simp [hf]) W h)
  have HG := Lib.hid (fun g W (h : BdS W (some ⟨g, 0, none⟩) [⟨nA, nC, n, nl, nh⟩]) => few10_is none 0 [] (some ⟨g, 0, none⟩) 1 [⟨nA, nC, n, nl, nh⟩] (by simp) (by simp) (one_of (show n.length ≤ 9223372036854775807 from h7)) true (by simp only [List.length_nil]; simp [hg]) W h)
  simp only [List.length_cons, List.length_nil, Nat.zero_add] at HG
  have C1 := Lib.hid (fun W (a : S4 W tA t) (c : BdS W bA b) => glr_is tA tC t m ex ey ez tx ty tz rn rd bA bC b h4 h5 (fun _ => fews_bsm hf) i1 i2 u 0 h1 W a c)
  have C2 := Lib.hid (fun W (a : S4 W tA t) (c : BdS W bA b) => glr_is tA tC t m ex ey ez tx ty tz sn sd bA bC b h4 h5 (fun _ => fews_bsm hf) i3 i4 v 0 h2 W a c)
  obtain ⟨M1, e1⟩ : ∃ M, sn * rd = M := ⟨_, rfl⟩
  obtain ⟨M2, e2⟩ : ∃ M, rn * sd = M := ⟨_, rfl⟩
  obtain ⟨⟨wm1, wn1⟩, wm2, wn2⟩ := w_sq ⟨ks.1, ks.2.1⟩ kr.2.2 ⟨kr.1, kr.2.1⟩ ks.2.2 e1 e2
  rw [e1, e2] at hle
  clear kr ks e1 e2
  clear hf hg h1 h2
  have HT := Lib.hid ht
  clear ht
  have HM := Lib.hid hm
  clear hm
  have HN := Lib.hid hn
  clear hn
  go_enter Try.func11, Try.ntmps11
  go_wp2_with fail
  obtain ⟨w1, hw1⟩ : ∃ V, (((((w.alloc (.cells #[.int .i64 ex, .int .i64 ey, .int .i64 ez] 27)).alloc (.cells #[.int .i64 tx, .int .i64 ty, .int .i64 tz] 27)).alloc (.cells #[.int .i64 rn, .int .i64 rd] 36)).alloc (.cells #[.int .i64 sn, .int .i64 sd] 36)).alloc (.cells #[.slice nA n.length nC, .int .i64 nl, .int .i64 nh] 59)) = V := ⟨_, rfl⟩
  obtain ⟨hB_, kp, kq, kr, ks, ky⟩ := boxes5 _ _ _ _ _ _ hw1
  rw [hw1]
  clear hw1
  have HB := Lib.hid hB_
  clear hB_
  have p0 := (cells3 kp).1
  have p1 := (cells3 kp).2.1
  have p2 := (cells3 kp).2.2
  have lp := block_lt p0
  have q0 := (cells3 kq).1
  have q1 := (cells3 kq).2.1
  have q2 := (cells3 kq).2.2
  have lq := block_lt q0
  have r0 := (two_cells kr).1
  have r1 := (two_cells kr).2.1
  have lr := block_lt r0
  have s0 := (two_cells ks).1
  have s1 := (two_cells ks).2.1
  have ls := block_lt s0
  have y0 := (cells3 ky).1
  have y1 := (cells3 ky).2.1
  have y2 := (cells3 ky).2.2
  have ly := block_lt y0
  replace HT := Lib.hid (HT.out.below HB.out)
  replace HM := Lib.hid (HM.out.below HB.out)
  replace HN := Lib.hid (HN.out.below HB.out)
  with_reducible refine (head10_any _).mono ?_
  rintro e_ w2 ⟨rfl, hb⟩
  replace HB := Lib.hid (on_below HB.out hb)
  replace HT := Lib.hid (HT.out.below hb)
  replace HM := Lib.hid (HM.out.below hb)
  replace HN := Lib.hid (HN.out.below hb)
  replace p0 := keepc hb p0
  replace p1 := keepc hb p1
  replace p2 := keepc hb p2
  replace q0 := keepc hb q0
  replace q1 := keepc hb q1
  replace q2 := keepc hb q2
  replace r0 := keepc hb r0
  replace r1 := keepc hb r1
  replace s0 := keepc hb s0
  replace s1 := keepc hb s1
  replace y0 := keepc hb y0
  replace y1 := keepc hb y1
  replace y2 := keepc hb y2
  replace kp := blk_on kp hb
  replace kq := blk_on kq hb
  replace kr := blk_on kr hb
  replace ks := blk_on ks hb
  replace ky := blk_on ky hb
  replace lp := Nat.lt_of_lt_of_le lp hb.size
  replace lq := Nat.lt_of_lt_of_le lq hb.size
  replace lr := Nat.lt_of_lt_of_le lr hb.size
  replace ls := Nat.lt_of_lt_of_le ls hb.size
  replace ly := Nat.lt_of_lt_of_le ly hb.size
  clear hb
  go_wp2_with fail
  with_reducible refine (HF.out _ HM.out).mono ?_
  rintro e_ w3 ⟨rfl, hb⟩
  replace HB := Lib.hid (on_below HB.out hb)
  replace HT := Lib.hid (HT.out.below hb)
  replace HM := Lib.hid (HM.out.below hb)
  replace HN := Lib.hid (HN.out.below hb)
  replace p0 := keepc hb p0
  replace p1 := keepc hb p1
  replace p2 := keepc hb p2
  replace q0 := keepc hb q0
  replace q1 := keepc hb q1
  replace q2 := keepc hb q2
  replace r0 := keepc hb r0
  replace r1 := keepc hb r1
  replace s0 := keepc hb s0
  replace s1 := keepc hb s1
  replace y0 := keepc hb y0
  replace y1 := keepc hb y1
  replace y2 := keepc hb y2
  replace kp := blk_on kp hb
  replace kq := blk_on kq hb
  replace kr := blk_on kr hb
  replace ks := blk_on ks hb
  replace ky := blk_on ky hb
  replace lp := Nat.lt_of_lt_of_le lp hb.size
  replace lq := Nat.lt_of_lt_of_le lq hb.size
  replace lr := Nat.lt_of_lt_of_le lr hb.size
  replace ls := Nat.lt_of_lt_of_le ls hb.size
  replace ly := Nat.lt_of_lt_of_le ly hb.size
  clear hb
  go_wp2_with fail
  have e0 : World.cell? (w3.alloc (.cells #[.slice nA n.length nC, .int .i64 nl, .int .i64 nh] 59)) ⟨w3.heap.size, 0, none⟩ = some (.slice nA n.length nC) := by simp [go_sem]
  have e1 : World.cell? (w3.alloc (.cells #[.slice nA n.length nC, .int .i64 nl, .int .i64 nh] 59)) ⟨w3.heap.size, 1, none⟩ = some (.int .i64 nl) := by simp [go_sem]
  have e2 : World.cell? (w3.alloc (.cells #[.slice nA n.length nC, .int .i64 nl, .int .i64 nh] 59)) ⟨w3.heap.size, 2, none⟩ = some (.int .i64 nh) := by simp [go_sem]
  have le : w3.heap.size < (w3.alloc (.cells #[.slice nA n.length nC, .int .i64 nl, .int .i64 nh] 59)).heap.size := by simp
  have hb : Below w3.heap.size w3 (w3.alloc (.cells #[.slice nA n.length nC, .int .i64 nl, .int .i64 nh] 59)) := below_new _ _
  generalize w3.alloc (.cells #[.slice nA n.length nC, .int .i64 nl, .int .i64 nh] 59) = w4 at *
  replace HB := Lib.hid (on_below HB.out hb)
  replace HT := Lib.hid (HT.out.below hb)
  replace HM := Lib.hid (HM.out.below hb)
  replace HN := Lib.hid (HN.out.below hb)
  replace p0 := keepc hb p0
  replace p1 := keepc hb p1
  replace p2 := keepc hb p2
  replace q0 := keepc hb q0
  replace q1 := keepc hb q1
  replace q2 := keepc hb q2
  replace r0 := keepc hb r0
  replace r1 := keepc hb r1
  replace s0 := keepc hb s0
  replace s1 := keepc hb s1
  replace y0 := keepc hb y0
  replace y1 := keepc hb y1
  replace y2 := keepc hb y2
  replace kp := blk_on kp hb
  replace kq := blk_on kq hb
  replace kr := blk_on kr hb
  replace ks := blk_on ks hb
  replace ky := blk_on ky hb
  replace lp := Nat.lt_of_lt_of_le lp hb.size
  replace lq := Nat.lt_of_lt_of_le lq hb.size
  replace lr := Nat.lt_of_lt_of_le lr hb.size
  replace ls := Nat.lt_of_lt_of_le ls hb.size
  replace ly := Nat.lt_of_lt_of_le ly hb.size
  clear hb
  generalize w3.heap.size = ge at *
  have HE := Lib.hid (bds_one (b := ⟨nA, nC, n, nl, nh⟩) e0 e1 e2 HN.out)
  with_reducible refine (HG.out _ _ HE.out).mono ?_
  rintro e_ w5 ⟨rfl, hb⟩
  replace HB := Lib.hid (on_below HB.out hb)
  replace HT := Lib.hid (HT.out.below hb)
  replace HM := Lib.hid (HM.out.below hb)
  replace HN := Lib.hid (HN.out.below hb)
  replace HE := Lib.hid (HE.out.below hb)
  replace p0 := keepc hb p0
  replace p1 := keepc hb p1
  replace p2 := keepc hb p2
  replace q0 := keepc hb q0
  replace q1 := keepc hb q1
  replace q2 := keepc hb q2
  replace r0 := keepc hb r0
  replace r1 := keepc hb r1
  replace s0 := keepc hb s0
  replace s1 := keepc hb s1
  replace y0 := keepc hb y0
  replace y1 := keepc hb y1
  replace y2 := keepc hb y2
  replace e0 := keepc hb e0
  replace e1 := keepc hb e1
  replace e2 := keepc hb e2
  replace kp := blk_on kp hb
  replace kq := blk_on kq hb
  replace kr := blk_on kr hb
  replace ks := blk_on ks hb
  replace ky := blk_on ky hb
  replace lp := Nat.lt_of_lt_of_le lp hb.size
  replace lq := Nat.lt_of_lt_of_le lq hb.size
  replace lr := Nat.lt_of_lt_of_le lr hb.size
  replace ls := Nat.lt_of_lt_of_le ls hb.size
  replace ly := Nat.lt_of_lt_of_le ly hb.size
  replace le := Nat.lt_of_lt_of_le le hb.size
  clear hb
  go_wp2_with fail
  with_reducible refine (C1.out _ HT.out HM.out).mono ?_
  rintro e_ w6 ⟨rfl, hb⟩
  replace HB := Lib.hid (on_below HB.out hb)
  replace HT := Lib.hid (HT.out.below hb)
  replace HM := Lib.hid (HM.out.below hb)
  replace HN := Lib.hid (HN.out.below hb)
  replace HE := Lib.hid (HE.out.below hb)
  replace p0 := keepc hb p0
  replace p1 := keepc hb p1
  replace p2 := keepc hb p2
  replace q0 := keepc hb q0
  replace q1 := keepc hb q1
  replace q2 := keepc hb q2
  replace r0 := keepc hb r0
  replace r1 := keepc hb r1
  replace s0 := keepc hb s0
  replace s1 := keepc hb s1
  replace y0 := keepc hb y0
  replace y1 := keepc hb y1
  replace y2 := keepc hb y2
  replace e0 := keepc hb e0
  replace e1 := keepc hb e1
  replace e2 := keepc hb e2
  replace kp := blk_on kp hb
  replace kq := blk_on kq hb
  replace kr := blk_on kr hb
  replace ks := blk_on ks hb
  replace ky := blk_on ky hb
  replace lp := Nat.lt_of_lt_of_le lp hb.size
  replace lq := Nat.lt_of_lt_of_le lq hb.size
  replace lr := Nat.lt_of_lt_of_le lr hb.size
  replace ls := Nat.lt_of_lt_of_le ls hb.size
  replace ly := Nat.lt_of_lt_of_le ly hb.size
  replace le := Nat.lt_of_lt_of_le le hb.size
  clear hb
  go_wp2_with fail
  with_reducible refine (C2.out _ HT.out HM.out).mono ?_
  rintro e_ w7 ⟨rfl, hb⟩
  replace HB := Lib.hid (on_below HB.out hb)
  replace HT := Lib.hid (HT.out.below hb)
  replace HM := Lib.hid (HM.out.below hb)
  replace HN := Lib.hid (HN.out.below hb)
  replace HE := Lib.hid (HE.out.below hb)
  replace p0 := keepc hb p0
  replace p1 := keepc hb p1
  replace p2 := keepc hb p2
  replace q0 := keepc hb q0
  replace q1 := keepc hb q1
  replace q2 := keepc hb q2
  replace r0 := keepc hb r0
  replace r1 := keepc hb r1
  replace s0 := keepc hb s0
  replace s1 := keepc hb s1
  replace y0 := keepc hb y0
  replace y1 := keepc hb y1
  replace y2 := keepc hb y2
  replace e0 := keepc hb e0
  replace e1 := keepc hb e1
  replace e2 := keepc hb e2
  replace kp := blk_on kp hb
  replace kq := blk_on kq hb
  replace kr := blk_on kr hb
  replace ks := blk_on ks hb
  replace ky := blk_on ky hb
  replace lp := Nat.lt_of_lt_of_le lp hb.size
  replace lq := Nat.lt_of_lt_of_le lq hb.size
  replace lr := Nat.lt_of_lt_of_le lr hb.size
  replace ls := Nat.lt_of_lt_of_le ls hb.size
  replace ly := Nat.lt_of_lt_of_le ly hb.size
  replace le := Nat.lt_of_lt_of_le le hb.size
  clear hb
  go_wp2_with fail
  go_ret
  exact ⟨rfl, HB.out⟩
end Go.Proofs.Ytgjcmolocoijiaa.LawGlare
