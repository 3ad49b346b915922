/-
  SunGlare: walks.
-/
import Derived.Test.YtgjcmolocoijiaaYSunGl0
import Derived.Test.YtgjcmolocoijiaaYShpY
import Derived.Deep.DeepCutAuto
import Derived.Test.YtgjcmolocoijiaaRows
import Derived.ProofKit
import Derived.OpenShut
import Derived.Deep.DeepHandedRow
import Derived.Deep.DeepWitnessRowRef
import Derived.MakeChecks
namespace Go.Proofs.Ytgjcmolocoijiaa.LawGlare
open Go.RowKit Go.Sort
open Go.RowKit (Below)
set_option linter.unusedVariables false
set_option linter.unusedSimpArgs false
attribute [local go_sem] Oper.semAt_some

set_option maxRecDepth 100000 in
set_option maxHeartbeats 8000000 in
theorem gl_D (tA : Option Addr) (tC : Nat) (t : List Q4) (m ex ey ez tx ty tz rn rd sn sd : Int) (bA : Option Addr) (bC : Nat) (b : List Bv) (nA : Option Addr) (nC : Nat) (n : List (Int × Int)) (nl nh : Int) (h4 : t.length ≤ 9223372036854775807) (h5 : b.length ≤ 9223372036854775807) (h6 : ∀ k, k < b.length → (gdB b k).xs.length ≤ 9223372036854775807) (h7 : n.length ≤ 9223372036854775807) (i1 : I64 rn) (i2 : I64 rd) (i3 : I64 sn) (i4 : I64 sd) (hf : FewS t.length b) (hg : FewS 0 [⟨nA, nC, n, nl, nh⟩]) (u v : Bool) (vq : Bool) (dk : Bool) (x y z : Int) (fl dp : Bool) (h1 : GlrR t m ex ey ez tx ty tz rn rd b u 0) (h2 : GlrR t m ex ey ez tx ty tz sn sd b v 0) (h3 : GlrR t m ex ey ez tx ty tz 1 1 b (!dk && fl && dp) 0) (ha : AtR t m x y z true 0) (kr : 0 ≤ rn ∧ rn ≤ 10000 ∧ 0 < rd ∧ rd ≤ 10000) (ks : 0 ≤ sn ∧ sn ≤ 10000 ∧ 0 < sd ∧ sd ≤ 10000) (hle : ¬ sn * rd < rn * sd) (hd : V3 x y z) (he : V3 ex ey ez) (ht0 : V3 tx ty tz) (hfl : decide (x * (ty - ey) = y * (tx - ex) ∧ y * (tz - ez) = z * (ty - ey) ∧ z * (tx - ex) = x * (tz - ez)) = fl) (hdp : decide (0 < dt x y z (tx - ex) (ty - ey) (tz - ez)) = dp) (h5s : ShdR t m ex ey ez b dk 0) (hne : ¬ (tx = ex ∧ ty = ey ∧ tz = ez)) (hKK : (u && dk || v && !u) = false) (hq : vq = true ↔ Bok n nl nh) (hQ : vq = true → b.length < 60 → ∃ c, GlrR t m ex ey ez tx ty tz rn rd (b ++ [⟨nA, nC, n, nl, nh⟩]) c 0 ∧ (!c || u) = true) (w : World) (ht : S4 w tA t) (hm : BdS w bA b) (hn : SlS w nA n) :
    Calls Try.prog 11 #[.slice tA t.length tC, .int .i64 m, .agg #[.int .i64 ex, .int .i64 ey, .int .i64 ez], .agg #[.int .i64 tx, .int .i64 ty, .int .i64 tz], .agg #[.int .i64 rn, .int .i64 rd], .agg #[.int .i64 sn, .int .i64 sd], .slice bA b.length bC, .agg #[.slice nA n.length nC, .int .i64 nl, .int .i64 nh]] w fun e_ w' => e_ = .returned (.bool true) ∧ Below w.heap.size w w' := by
  have HF := Lib.hid (fun W (h : BdS W bA b) => few10_is tA tC t bA bC b h4 h5 h6 true (by simp [hf]) W h)
  have HG := Lib.hid (fun g W (h : BdS W (some ⟨g, 0, none⟩) [⟨nA, nC, n, nl, nh⟩]) => few10_is none 0 [] (some ⟨g, 0, none⟩) 1 [⟨nA, nC, n, nl, nh⟩] (by simp) (by simp) (one_of (show n.length ≤ 9223372036854775807 from h7)) true (by simp only [List.length_nil]; simp [hg]) W h)
  simp only [List.length_cons, List.length_nil, Nat.zero_add] at HG
  have C1 := Lib.hid (fun W (a : S4 W tA t) (c : BdS W bA b) => glr_is tA tC t m ex ey ez tx ty tz rn rd bA bC b h4 h5 (fun _ => fews_bsm hf) i1 i2 u 0 h1 W a c)
  have C2 := Lib.hid (fun W (a : S4 W tA t) (c : BdS W bA b) => glr_is tA tC t m ex ey ez tx ty tz sn sd bA bC b h4 h5 (fun _ => fews_bsm hf) i3 i4 v 0 h2 W a c)
  have C6 := Lib.hid (fun W (a : S4 W tA t) (c : BdS W bA b) => glr_is tA tC t m ex ey ez tx ty tz 1 1 bA bC b h4 h5 (fun _ => fews_bsm hf) ⟨by decide, by decide⟩ ⟨by decide, by decide⟩ (!dk && fl && dp) 0 h3 W a c)
  have C3 := Lib.hid (fun W (a : S4 W tA t) => at_is tA tC t m h4 x y z true 0 ha W a)
  have CV := Lib.hid (fun W (a : SlS W nA n) => pvalid_is nA nC n nl nh (by have := hg.2.2 0 (by simp); simp [gdB] at this; omega) vq hq W a)
  have lb := hf.2.1
  have m1_ : 0 + b.length ≤ maxLen := by unfold maxLen; omega
  have m2_ : (0 + b.length) * 40 ≤ 140737488355328 := by omega
  have m3_ : 0 + b.length + 1 ≤ maxLen := by unfold maxLen; omega
  have m4_ : (0 + b.length + 1) * 40 ≤ 140737488355328 := by omega
  have C5 := Lib.hid (fun W (a : S4 W tA t) (c : BdS W bA b) => shd_is tA tC t m ex ey ez bA bC b h4 h5 (fun _ => fews_bsm hf) dk 0 h5s W a c)
  have vne : ∀ W, (binOp .neq 27 (.agg #[.int .i64 ex, .int .i64 ey, .int .i64 ez]) (.agg #[.int .i64 tx, .int .i64 ty, .int .i64 tz])).run Try.prog W = .ok (.bool true) W := fun W => vec_ne (r := false) (decide_eq_false (fun e => hne ⟨e.1.symm, e.2.1.symm, e.2.2.symm⟩)) W
  have HQ := Lib.hid hQ
  have C4p := Lib.hid (fun (c : Bool) (h6s : GlrR t m ex ey ez tx ty tz rn rd (b ++ [⟨nA, nC, n, nl, nh⟩]) c 0) A C W (a : S4 W tA t) (c_ : BdS W A (b ++ [⟨nA, nC, n, nl, nh⟩])) => glr_is tA tC t m ex ey ez tx ty tz rn rd A C (b ++ [⟨nA, nC, n, nl, nh⟩]) h4 (by simp; omega) (fun _ => bsm_app (fews_bsm hf) (fews_bsm hg)) i1 i2 c 0 h6s W a c_)
  obtain ⟨i0, hi0, hz0, hz1, hz2⟩ := info_of (show (Try.prog.info? 59).map (fun i => (i.zero, i.size, i.bytes)) = some (some (.agg #[.slice none 0 0, .int .i64 0, .int .i64 0]), 3, 40) by kernel_rfl)
  clear i1 i2 i3 i4 h1 h2 h3 ha h4 h5 h6 h7 hf hg hq hQ h5s hne
  obtain ⟨M1, e1⟩ : ∃ M, sn * rd = M := ⟨_, rfl⟩
  obtain ⟨M2, e2⟩ : ∃ M, rn * sd = M := ⟨_, rfl⟩
  obtain ⟨⟨wm1, wn1⟩, wm2, wn2⟩ := w_sq ⟨ks.1, ks.2.1⟩ kr.2.2 ⟨kr.1, kr.2.1⟩ ks.2.2 e1 e2
  rw [e1, e2] at hle
  clear kr ks e1 e2
  obtain ⟨vx, hvx⟩ : ∃ v, tx - ex = v := ⟨_, rfl⟩
  obtain ⟨wxvx, wyvx, bvx⟩ := w_diff ht0.x he.x hvx
  rw [hvx] at hfl hdp
  clear hvx
  obtain ⟨vy, hvy⟩ : ∃ v, ty - ey = v := ⟨_, rfl⟩
  obtain ⟨wxvy, wyvy, bvy⟩ := w_diff ht0.y he.y hvy
  rw [hvy] at hfl hdp
  clear hvy
  obtain ⟨vz, hvz⟩ : ∃ v, tz - ez = v := ⟨_, rfl⟩
  obtain ⟨wxvz, wyvz, bvz⟩ := w_diff ht0.z he.z hvz
  rw [hvz] at hfl hdp
  clear hvz
  clear he ht0
  obtain ⟨A1, hA1⟩ : ∃ v, x * vy = v := ⟨_, rfl⟩
  obtain ⟨wxA1, wyA1, bA1⟩ := w_prod hd.x bvy hA1
  simp only [dt, hA1] at hfl hdp
  clear hA1 bA1
  obtain ⟨A2, hA2⟩ : ∃ v, y * vx = v := ⟨_, rfl⟩
  obtain ⟨wxA2, wyA2, bA2⟩ := w_prod hd.y bvx hA2
  simp only [dt, hA2] at hfl hdp
  clear hA2 bA2
  obtain ⟨A3, hA3⟩ : ∃ v, y * vz = v := ⟨_, rfl⟩
  obtain ⟨wxA3, wyA3, bA3⟩ := w_prod hd.y bvz hA3
  simp only [dt, hA3] at hfl hdp
  clear hA3 bA3
  obtain ⟨A4, hA4⟩ : ∃ v, z * vy = v := ⟨_, rfl⟩
  obtain ⟨wxA4, wyA4, bA4⟩ := w_prod hd.z bvy hA4
  simp only [dt, hA4] at hfl hdp
  clear hA4 bA4
  obtain ⟨A5, hA5⟩ : ∃ v, z * vx = v := ⟨_, rfl⟩
  obtain ⟨wxA5, wyA5, bA5⟩ := w_prod hd.z bvx hA5
  simp only [dt, hA5] at hfl hdp
  clear hA5 bA5
  obtain ⟨A6, hA6⟩ : ∃ v, x * vz = v := ⟨_, rfl⟩
  obtain ⟨wxA6, wyA6, bA6⟩ := w_prod hd.x bvz hA6
  simp only [dt, hA6] at hfl hdp
  clear hA6 bA6
  obtain ⟨D1, hD1⟩ : ∃ v, x * vx = v := ⟨_, rfl⟩
  obtain ⟨wxD1, wyD1, bD1⟩ := w_prod hd.x bvx hD1
  simp only [dt, hD1] at hfl hdp
  clear hD1
  obtain ⟨D2, hD2⟩ : ∃ v, y * vy = v := ⟨_, rfl⟩
  obtain ⟨wxD2, wyD2, bD2⟩ := w_prod hd.y bvy hD2
  simp only [dt, hD2] at hfl hdp
  clear hD2
  obtain ⟨D3, hD3⟩ : ∃ v, z * vz = v := ⟨_, rfl⟩
  obtain ⟨wxD3, wyD3, bD3⟩ := w_prod hd.z bvz hD3
  simp only [dt, hD3] at hfl hdp
  clear hD3
  obtain ⟨ws1, ws2, ws3, ws4⟩ := w_sum bD1 bD2 bD3
  clear hd bD1 bD2 bD3 bvx bvy bvz
  obtain ⟨f1, e1⟩ : ∃ f, (A1 == A2) = f := ⟨_, rfl⟩
  obtain ⟨f2, e2⟩ : ∃ f, (A3 == A4) = f := ⟨_, rfl⟩
  obtain ⟨f3, e3⟩ : ∃ f, (A5 == A6) = f := ⟨_, rfl⟩
  have e4 : decide (0 < D1 + D2 + D3) = dp := hdp
  clear hdp
  replace hfl : fl = (f1 && f2 && f3) := by rw [← hfl, ← e1, ← e2, ← e3, Bool.eq_iff_iff]; simp [and_assoc]
  have HFL := Lib.hid hfl
  clear hfl
  have KK := Lib.hid hKK
  clear hKK
  have HT := Lib.hid ht
  clear ht
  have HM := Lib.hid hm
  clear hm
  have HN := Lib.hid hn
  clear hn
  go_enter Try.func11, Try.ntmps11
  go_wp2_with fail
  obtain ⟨w1, hw1⟩ : ∃ V, (((((w.alloc (.cells #[.int .i64 ex, .int .i64 ey, .int .i64 ez] 27)).alloc (.cells #[.int .i64 tx, .int .i64 ty, .int .i64 tz] 27)).alloc (.cells #[.int .i64 rn, .int .i64 rd] 36)).alloc (.cells #[.int .i64 sn, .int .i64 sd] 36)).alloc (.cells #[.slice nA n.length nC, .int .i64 nl, .int .i64 nh] 59)) = V := ⟨_, rfl⟩
  obtain ⟨hB_, kp, kq, kr, ks, ky⟩ := boxes5 _ _ _ _ _ _ hw1
  rw [hw1]
  clear hw1
  have HB := Lib.hid hB_
  clear hB_
  have p0 := (cells3 kp).1
  have p1 := (cells3 kp).2.1
  have p2 := (cells3 kp).2.2
  have lp := block_lt p0
  have q0 := (cells3 kq).1
  have q1 := (cells3 kq).2.1
  have q2 := (cells3 kq).2.2
  have lq := block_lt q0
  have r0 := (two_cells kr).1
  have r1 := (two_cells kr).2.1
  have lr := block_lt r0
  have s0 := (two_cells ks).1
  have s1 := (two_cells ks).2.1
  have ls := block_lt s0
  have y0 := (cells3 ky).1
  have y1 := (cells3 ky).2.1
  have y2 := (cells3 ky).2.2
  have ly := block_lt y0
  replace HT := Lib.hid (HT.out.below HB.out)
  replace HM := Lib.hid (HM.out.below HB.out)
  replace HN := Lib.hid (HN.out.below HB.out)
  with_reducible refine (head10_any _).mono ?_
  rintro e_ w2 ⟨rfl, hb⟩
  replace HB := Lib.hid (on_below HB.out hb)
  replace HT := Lib.hid (HT.out.below hb)
  replace HM := Lib.hid (HM.out.below hb)
  replace HN := Lib.hid (HN.out.below hb)
  replace p0 := keepc hb p0
  replace p1 := keepc hb p1
  replace p2 := keepc hb p2
  replace q0 := keepc hb q0
  replace q1 := keepc hb q1
  replace q2 := keepc hb q2
  replace r0 := keepc hb r0
  replace r1 := keepc hb r1
  replace s0 := keepc hb s0
  replace s1 := keepc hb s1
  replace y0 := keepc hb y0
  replace y1 := keepc hb y1
  replace y2 := keepc hb y2
  replace kp := blk_on kp hb
  replace kq := blk_on kq hb
  replace kr := blk_on kr hb
  replace ks := blk_on ks hb
  replace ky := blk_on ky hb
  replace lp := Nat.lt_of_lt_of_le lp hb.size
  replace lq := Nat.lt_of_lt_of_le lq hb.size
  replace lr := Nat.lt_of_lt_of_le lr hb.size
  replace ls := Nat.lt_of_lt_of_le ls hb.size
  replace ly := Nat.lt_of_lt_of_le ly hb.size
  clear hb
  go_wp2_with fail
  with_reducible refine (HF.out _ HM.out).mono ?_
  rintro e_ w3 ⟨rfl, hb⟩
  replace HB := Lib.hid (on_below HB.out hb)
  replace HT := Lib.hid (HT.out.below hb)
  replace HM := Lib.hid (HM.out.below hb)
  replace HN := Lib.hid (HN.out.below hb)
  replace p0 := keepc hb p0
  replace p1 := keepc hb p1
  replace p2 := keepc hb p2
  replace q0 := keepc hb q0
  replace q1 := keepc hb q1
  replace q2 := keepc hb q2
  replace r0 := keepc hb r0
  replace r1 := keepc hb r1
  replace s0 := keepc hb s0
  replace s1 := keepc hb s1
  replace y0 := keepc hb y0
  replace y1 := keepc hb y1
  replace y2 := keepc hb y2
  replace kp := blk_on kp hb
  replace kq := blk_on kq hb
  replace kr := blk_on kr hb
  replace ks := blk_on ks hb
  replace ky := blk_on ky hb
  replace lp := Nat.lt_of_lt_of_le lp hb.size
  replace lq := Nat.lt_of_lt_of_le lq hb.size
  replace lr := Nat.lt_of_lt_of_le lr hb.size
  replace ls := Nat.lt_of_lt_of_le ls hb.size
  replace ly := Nat.lt_of_lt_of_le ly hb.size
  clear hb
  go_wp2_with fail
  have e0 : World.cell? (w3.alloc (.cells #[.slice nA n.length nC, .int .i64 nl, .int .i64 nh] 59)) ⟨w3.heap.size, 0, none⟩ = some (.slice nA n.length nC) := by simp [go_sem]
  have e1 : World.cell? (w3.alloc (.cells #[.slice nA n.length nC, .int .i64 nl, .int .i64 nh] 59)) ⟨w3.heap.size, 1, none⟩ = some (.int .i64 nl) := by simp [go_sem]
  have e2 : World.cell? (w3.alloc (.cells #[.slice nA n.length nC, .int .i64 nl, .int .i64 nh] 59)) ⟨w3.heap.size, 2, none⟩ = some (.int .i64 nh) := by simp [go_sem]
  have le : w3.heap.size < (w3.alloc (.cells #[.slice nA n.length nC, .int .i64 nl, .int .i64 nh] 59)).heap.size := by simp
  have hb : Below w3.heap.size w3 (w3.alloc (.cells #[.slice nA n.length nC, .int .i64 nl, .int .i64 nh] 59)) := below_new _ _
  generalize w3.alloc (.cells #[.slice nA n.length nC, .int .i64 nl, .int .i64 nh] 59) = w4 at *
  replace HB := Lib.hid (on_below HB.out hb)
  replace HT := Lib.hid (HT.out.below hb)
  replace HM := Lib.hid (HM.out.below hb)
  replace HN := Lib.hid (HN.out.below hb)
  replace p0 := keepc hb p0
  replace p1 := keepc hb p1
  replace p2 := keepc hb p2
  replace q0 := keepc hb q0
  replace q1 := keepc hb q1
  replace q2 := keepc hb q2
  replace r0 := keepc hb r0
  replace r1 := keepc hb r1
  replace s0 := keepc hb s0
  replace s1 := keepc hb s1
  replace y0 := keepc hb y0
  replace y1 := keepc hb y1
  replace y2 := keepc hb y2
  replace kp := blk_on kp hb
  replace kq := blk_on kq hb
  replace kr := blk_on kr hb
  replace ks := blk_on ks hb
  replace ky := blk_on ky hb
  replace lp := Nat.lt_of_lt_of_le lp hb.size
  replace lq := Nat.lt_of_lt_of_le lq hb.size
  replace lr := Nat.lt_of_lt_of_le lr hb.size
  replace ls := Nat.lt_of_lt_of_le ls hb.size
  replace ly := Nat.lt_of_lt_of_le ly hb.size
  clear hb
  generalize w3.heap.size = ge at *
  have HE := Lib.hid (bds_one (b := ⟨nA, nC, n, nl, nh⟩) e0 e1 e2 HN.out)
  with_reducible refine (HG.out _ _ HE.out).mono ?_
  rintro e_ w5 ⟨rfl, hb⟩
  replace HB := Lib.hid (on_below HB.out hb)
  replace HT := Lib.hid (HT.out.below hb)
  replace HM := Lib.hid (HM.out.below hb)
  replace HN := Lib.hid (HN.out.below hb)
  replace HE := Lib.hid (HE.out.below hb)
  replace p0 := keepc hb p0
  replace p1 := keepc hb p1
  replace p2 := keepc hb p2
  replace q0 := keepc hb q0
  replace q1 := keepc hb q1
  replace q2 := keepc hb q2
  replace r0 := keepc hb r0
  replace r1 := keepc hb r1
  replace s0 := keepc hb s0
  replace s1 := keepc hb s1
  replace y0 := keepc hb y0
  replace y1 := keepc hb y1
  replace y2 := keepc hb y2
  replace e0 := keepc hb e0
  replace e1 := keepc hb e1
  replace e2 := keepc hb e2
  replace kp := blk_on kp hb
  replace kq := blk_on kq hb
  replace kr := blk_on kr hb
  replace ks := blk_on ks hb
  replace ky := blk_on ky hb
  replace lp := Nat.lt_of_lt_of_le lp hb.size
  replace lq := Nat.lt_of_lt_of_le lq hb.size
  replace lr := Nat.lt_of_lt_of_le lr hb.size
  replace ls := Nat.lt_of_lt_of_le ls hb.size
  replace ly := Nat.lt_of_lt_of_le ly hb.size
  replace le := Nat.lt_of_lt_of_le le hb.size
  clear hb
  go_wp2_with fail
  with_reducible refine (C1.out _ HT.out HM.out).mono ?_
  rintro e_ w6 ⟨rfl, hb⟩
  replace HB := Lib.hid (on_below HB.out hb)
  replace HT := Lib.hid (HT.out.below hb)
  replace HM := Lib.hid (HM.out.below hb)
  replace HN := Lib.hid (HN.out.below hb)
  replace HE := Lib.hid (HE.out.below hb)
  replace p0 := keepc hb p0
  replace p1 := keepc hb p1
  replace p2 := keepc hb p2
  replace q0 := keepc hb q0
  replace q1 := keepc hb q1
  replace q2 := keepc hb q2
  replace r0 := keepc hb r0
  replace r1 := keepc hb r1
  replace s0 := keepc hb s0
  replace s1 := keepc hb s1
  replace y0 := keepc hb y0
  replace y1 := keepc hb y1
  replace y2 := keepc hb y2
  replace e0 := keepc hb e0
  replace e1 := keepc hb e1
  replace e2 := keepc hb e2
  replace kp := blk_on kp hb
  replace kq := blk_on kq hb
  replace kr := blk_on kr hb
  replace ks := blk_on ks hb
  replace ky := blk_on ky hb
  replace lp := Nat.lt_of_lt_of_le lp hb.size
  replace lq := Nat.lt_of_lt_of_le lq hb.size
  replace lr := Nat.lt_of_lt_of_le lr hb.size
  replace ls := Nat.lt_of_lt_of_le ls hb.size
  replace ly := Nat.lt_of_lt_of_le ly hb.size
  replace le := Nat.lt_of_lt_of_le le hb.size
  clear hb
  go_wp2_with fail
  with_reducible refine (C2.out _ HT.out HM.out).mono ?_
  rintro e_ w7 ⟨rfl, hb⟩
  replace HB := Lib.hid (on_below HB.out hb)
  replace HT := Lib.hid (HT.out.below hb)
  replace HM := Lib.hid (HM.out.below hb)
  replace HN := Lib.hid (HN.out.below hb)
  replace HE := Lib.hid (HE.out.below hb)
  replace p0 := keepc hb p0
  replace p1 := keepc hb p1
  replace p2 := keepc hb p2
  replace q0 := keepc hb q0
  replace q1 := keepc hb q1
  replace q2 := keepc hb q2
  replace r0 := keepc hb r0
  replace r1 := keepc hb r1
  replace s0 := keepc hb s0
  replace s1 := keepc hb s1
  replace y0 := keepc hb y0
  replace y1 := keepc hb y1
  replace y2 := keepc hb y2
  replace e0 := keepc hb e0
  replace e1 := keepc hb e1
  replace e2 := keepc hb e2
  replace kp := blk_on kp hb
  replace kq := blk_on kq hb
  replace kr := blk_on kr hb
  replace ks := blk_on ks hb
  replace ky := blk_on ky hb
  replace lp := Nat.lt_of_lt_of_le lp hb.size
  replace lq := Nat.lt_of_lt_of_le lq hb.size
  replace lr := Nat.lt_of_lt_of_le lr hb.size
  replace ls := Nat.lt_of_lt_of_le ls hb.size
  replace ly := Nat.lt_of_lt_of_le ly hb.size
  replace le := Nat.lt_of_lt_of_le le hb.size
  clear hb
  go_wp2_with fail
  with_reducible refine (C3.out _ HT.out).mono ?_
  rintro e_ w8 ⟨rfl, hb⟩
  replace HB := Lib.hid (on_below HB.out hb)
  replace HT := Lib.hid (HT.out.below hb)
  replace HM := Lib.hid (HM.out.below hb)
  replace HN := Lib.hid (HN.out.below hb)
  replace HE := Lib.hid (HE.out.below hb)
  replace p0 := keepc hb p0
  replace p1 := keepc hb p1
  replace p2 := keepc hb p2
  replace q0 := keepc hb q0
  replace q1 := keepc hb q1
  replace q2 := keepc hb q2
  replace r0 := keepc hb r0
  replace r1 := keepc hb r1
  replace s0 := keepc hb s0
  replace s1 := keepc hb s1
  replace y0 := keepc hb y0
  replace y1 := keepc hb y1
  replace y2 := keepc hb y2
  replace e0 := keepc hb e0
  replace e1 := keepc hb e1
  replace e2 := keepc hb e2
  replace kp := blk_on kp hb
  replace kq := blk_on kq hb
  replace kr := blk_on kr hb
  replace ks := blk_on ks hb
  replace ky := blk_on ky hb
  replace lp := Nat.lt_of_lt_of_le lp hb.size
  replace lq := Nat.lt_of_lt_of_le lq hb.size
  replace lr := Nat.lt_of_lt_of_le lr hb.size
  replace ls := Nat.lt_of_lt_of_le ls hb.size
  replace ly := Nat.lt_of_lt_of_le ly hb.size
  replace le := Nat.lt_of_lt_of_le le hb.size
  clear hb
  go_upto_region 9 with fail
  have d0 : World.cell? (w8.alloc (.cells #[.int .i64 x, .int .i64 y, .int .i64 z] 27)) ⟨w8.heap.size, 0, none⟩ = some (.int .i64 x) := by simp [go_sem]
  have d1 : World.cell? (w8.alloc (.cells #[.int .i64 x, .int .i64 y, .int .i64 z] 27)) ⟨w8.heap.size, 1, none⟩ = some (.int .i64 y) := by simp [go_sem]
  have d2 : World.cell? (w8.alloc (.cells #[.int .i64 x, .int .i64 y, .int .i64 z] 27)) ⟨w8.heap.size, 2, none⟩ = some (.int .i64 z) := by simp [go_sem]
  have ld : w8.heap.size < (w8.alloc (.cells #[.int .i64 x, .int .i64 y, .int .i64 z] 27)).heap.size := by simp
  have hb : Below w8.heap.size w8 (w8.alloc (.cells #[.int .i64 x, .int .i64 y, .int .i64 z] 27)) := below_new _ _
  generalize w8.alloc (.cells #[.int .i64 x, .int .i64 y, .int .i64 z] 27) = w9 at *
  replace HB := Lib.hid (on_below HB.out hb)
  replace HT := Lib.hid (HT.out.below hb)
  replace HM := Lib.hid (HM.out.below hb)
  replace HN := Lib.hid (HN.out.below hb)
  replace HE := Lib.hid (HE.out.below hb)
  replace p0 := keepc hb p0
  replace p1 := keepc hb p1
  replace p2 := keepc hb p2
  replace q0 := keepc hb q0
  replace q1 := keepc hb q1
  replace q2 := keepc hb q2
  replace r0 := keepc hb r0
  replace r1 := keepc hb r1
  replace s0 := keepc hb s0
  replace s1 := keepc hb s1
  replace y0 := keepc hb y0
  replace y1 := keepc hb y1
  replace y2 := keepc hb y2
  replace e0 := keepc hb e0
  replace e1 := keepc hb e1
  replace e2 := keepc hb e2
  replace kp := blk_on kp hb
  replace kq := blk_on kq hb
  replace kr := blk_on kr hb
  replace ks := blk_on ks hb
  replace ky := blk_on ky hb
  replace lp := Nat.lt_of_lt_of_le lp hb.size
  replace lq := Nat.lt_of_lt_of_le lq hb.size
  replace lr := Nat.lt_of_lt_of_le lr hb.size
  replace ls := Nat.lt_of_lt_of_le ls hb.size
  replace ly := Nat.lt_of_lt_of_le ly hb.size
  replace le := Nat.lt_of_lt_of_le le hb.size
  clear hb
  generalize w8.heap.size = gd at *
  clear e0 e1 e2 le HE
  go_wp2_with fail
  with_reducible refine (C5.out _ HT.out HM.out).mono ?_
  rintro e_ w10 ⟨rfl, hb⟩
  replace HB := Lib.hid (on_below HB.out hb)
  replace HT := Lib.hid (HT.out.below hb)
  replace HM := Lib.hid (HM.out.below hb)
  replace HN := Lib.hid (HN.out.below hb)
  replace p0 := keepc hb p0
  replace p1 := keepc hb p1
  replace p2 := keepc hb p2
  replace q0 := keepc hb q0
  replace q1 := keepc hb q1
  replace q2 := keepc hb q2
  replace r0 := keepc hb r0
  replace r1 := keepc hb r1
  replace s0 := keepc hb s0
  replace s1 := keepc hb s1
  replace y0 := keepc hb y0
  replace y1 := keepc hb y1
  replace y2 := keepc hb y2
  replace d0 := keepc hb d0
  replace d1 := keepc hb d1
  replace d2 := keepc hb d2
  replace kp := blk_on kp hb
  replace kq := blk_on kq hb
  replace kr := blk_on kr hb
  replace ks := blk_on ks hb
  replace ky := blk_on ky hb
  replace lp := Nat.lt_of_lt_of_le lp hb.size
  replace lq := Nat.lt_of_lt_of_le lq hb.size
  replace lr := Nat.lt_of_lt_of_le lr hb.size
  replace ls := Nat.lt_of_lt_of_le ls hb.size
  replace ly := Nat.lt_of_lt_of_le ly hb.size
  replace ld := Nat.lt_of_lt_of_le ld hb.size
  clear hb
  go_upto_region 13 with fail
  go_cut [128] (fun s_ wx => s_ = .bool false ∧ w10 = wx)
  case first => as_aux_lemma =>
    clear p0 p1 p2 q0 q1 q2 r0 r1 s0 s1 y0 y1 y2 d0 d1 d2 lp lq lr ls ly ld kp kq kr ks ky HT HM HN HB
    cases u <;> cases v <;> cases dk
    all_goals (first | (exact absurd KK.out (by decide)) | skip)
    all_goals clear KK
    all_goals go_wp2_with fail
    all_goals go_meet
    all_goals exact ⟨rfl, rfl⟩
  obtain ⟨rfl, hx⟩ := hcut
  subst hx
  go_wp2_with fail
  with_reducible refine (C6.out _ HT.out HM.out).mono ?_
  rintro e_ w11 ⟨rfl, hb⟩
  replace HB := Lib.hid (on_below HB.out hb)
  replace HT := Lib.hid (HT.out.below hb)
  replace HM := Lib.hid (HM.out.below hb)
  replace HN := Lib.hid (HN.out.below hb)
  replace p0 := keepc hb p0
  replace p1 := keepc hb p1
  replace p2 := keepc hb p2
  replace q0 := keepc hb q0
  replace q1 := keepc hb q1
  replace q2 := keepc hb q2
  replace r0 := keepc hb r0
  replace r1 := keepc hb r1
  replace s0 := keepc hb s0
  replace s1 := keepc hb s1
  replace y0 := keepc hb y0
  replace y1 := keepc hb y1
  replace y2 := keepc hb y2
  replace d0 := keepc hb d0
  replace d1 := keepc hb d1
  replace d2 := keepc hb d2
  replace kp := blk_on kp hb
  replace kq := blk_on kq hb
  replace kr := blk_on kr hb
  replace ks := blk_on ks hb
  replace ky := blk_on ky hb
  replace lp := Nat.lt_of_lt_of_le lp hb.size
  replace lq := Nat.lt_of_lt_of_le lq hb.size
  replace lr := Nat.lt_of_lt_of_le lr hb.size
  replace ls := Nat.lt_of_lt_of_le ls hb.size
  replace ly := Nat.lt_of_lt_of_le ly hb.size
  replace ld := Nat.lt_of_lt_of_le ld hb.size
  clear hb
  go_upto_region 17 with fail
  have v0 : World.cell? (w11.alloc (.cells #[.int .i64 vx, .int .i64 vy, .int .i64 vz] 27)) ⟨w11.heap.size, 0, none⟩ = some (.int .i64 vx) := by simp [go_sem]
  have v1 : World.cell? (w11.alloc (.cells #[.int .i64 vx, .int .i64 vy, .int .i64 vz] 27)) ⟨w11.heap.size, 1, none⟩ = some (.int .i64 vy) := by simp [go_sem]
  have v2 : World.cell? (w11.alloc (.cells #[.int .i64 vx, .int .i64 vy, .int .i64 vz] 27)) ⟨w11.heap.size, 2, none⟩ = some (.int .i64 vz) := by simp [go_sem]
  have lv : w11.heap.size < (w11.alloc (.cells #[.int .i64 vx, .int .i64 vy, .int .i64 vz] 27)).heap.size := by simp
  have hb : Below w11.heap.size w11 (w11.alloc (.cells #[.int .i64 vx, .int .i64 vy, .int .i64 vz] 27)) := below_new _ _
  generalize w11.alloc (.cells #[.int .i64 vx, .int .i64 vy, .int .i64 vz] 27) = w12 at *
  replace HB := Lib.hid (on_below HB.out hb)
  replace HT := Lib.hid (HT.out.below hb)
  replace HM := Lib.hid (HM.out.below hb)
  replace HN := Lib.hid (HN.out.below hb)
  replace p0 := keepc hb p0
  replace p1 := keepc hb p1
  replace p2 := keepc hb p2
  replace q0 := keepc hb q0
  replace q1 := keepc hb q1
  replace q2 := keepc hb q2
  replace r0 := keepc hb r0
  replace r1 := keepc hb r1
  replace s0 := keepc hb s0
  replace s1 := keepc hb s1
  replace y0 := keepc hb y0
  replace y1 := keepc hb y1
  replace y2 := keepc hb y2
  replace d0 := keepc hb d0
  replace d1 := keepc hb d1
  replace d2 := keepc hb d2
  replace kp := blk_on kp hb
  replace kq := blk_on kq hb
  replace kr := blk_on kr hb
  replace ks := blk_on ks hb
  replace ky := blk_on ky hb
  replace lp := Nat.lt_of_lt_of_le lp hb.size
  replace lq := Nat.lt_of_lt_of_le lq hb.size
  replace lr := Nat.lt_of_lt_of_le lr hb.size
  replace ls := Nat.lt_of_lt_of_le ls hb.size
  replace ly := Nat.lt_of_lt_of_le ly hb.size
  replace ld := Nat.lt_of_lt_of_le ld hb.size
  clear hb
  generalize w11.heap.size = gv at *
  go_cut [30] (fun s_ wx => s_ = .bool fl ∧ w12 = wx)
  case first => as_aux_lemma =>
    clear p0 p1 p2 q0 q1 q2 r0 r1 s0 s1 y0 y1 y2 lp lq lr ls ly kp kq kr ks ky HT HM HN HB
    have hfl := HFL.out
    clear HFL
    subst hfl
    cases f1
    rotate_left
    cases f2
    all_goals go_wp2_with fail
    all_goals go_meet
    all_goals exact ⟨rfl, rfl⟩
  obtain ⟨rfl, hx⟩ := hcut
  subst hx
  go_upto_region 18 with fail
  go_cut [225] (fun s_ wx => s_ = .bool false ∧ w12 = wx)
  case first => as_aux_lemma =>
    clear p0 p1 p2 q0 q1 q2 r0 r1 s0 s1 y0 y1 y2 lp lq lr ls ly kp kq kr ks ky HT HM HN HB
    clear HFL e1 e2 e3
    cases dk
    rotate_left
    skip
    all_goals cases fl
    all_goals cases dp
    all_goals go_wp2_with fail
    all_goals go_meet
    all_goals exact ⟨rfl, rfl⟩
  obtain ⟨rfl, hx⟩ := hcut
  subst hx
  clear e1 e2 e3 e4 HFL wxA1 wyA1 wxA2 wyA2 wxA3 wyA3 wxA4 wyA4 wxA5 wyA5 wxA6 wyA6 wxD1 wyD1 wxD2 wyD2 wxD3 wyD3 wxvx wyvx wxvy wyvy wxvz wyvz ws1 ws2 ws3 ws4 wm1 wm2 wn1 wn2 hle KK vne
  clear d0 d1 d2 ld v0 v1 v2 lv
  go_wp2_with fail
  with_reducible refine (CV.out _ HN.out).mono ?_
  rintro e_ w13 ⟨rfl, hb⟩
  replace HB := Lib.hid (on_below HB.out hb)
  replace HT := Lib.hid (HT.out.below hb)
  replace HM := Lib.hid (HM.out.below hb)
  replace HN := Lib.hid (HN.out.below hb)
  replace p0 := keepc hb p0
  replace p1 := keepc hb p1
  replace p2 := keepc hb p2
  replace q0 := keepc hb q0
  replace q1 := keepc hb q1
  replace q2 := keepc hb q2
  replace r0 := keepc hb r0
  replace r1 := keepc hb r1
  replace s0 := keepc hb s0
  replace s1 := keepc hb s1
  replace y0 := keepc hb y0
  replace y1 := keepc hb y1
  replace y2 := keepc hb y2
  replace kp := blk_on kp hb
  replace kq := blk_on kq hb
  replace kr := blk_on kr hb
  replace ks := blk_on ks hb
  replace ky := blk_on ky hb
  replace lp := Nat.lt_of_lt_of_le lp hb.size
  replace lq := Nat.lt_of_lt_of_le lq hb.size
  replace lr := Nat.lt_of_lt_of_le lr hb.size
  replace ls := Nat.lt_of_lt_of_le ls hb.size
  replace ly := Nat.lt_of_lt_of_le ly hb.size
  clear hb
  cases vq
  · go_wp2_with fail
    go_ret
    exact ⟨rfl, HB.out⟩
  by_cases hl : 60 ≤ b.length
  · have hz : (60 : Int) ≤ b.length := Int.ofNat_le.2 hl
    go_wp2_with fail
    go_ret
    exact ⟨rfl, HB.out⟩
  have hz : ¬ (60 : Int) ≤ b.length := fun h => hl (Int.ofNat_le.1 h)
  obtain ⟨c, h6s, hK2⟩ := HQ.out rfl (Nat.lt_of_not_le hl)
  have C4 := Lib.hid (C4p.out c h6s)
  clear HQ C4p h6s
  simp only [List.length_append, List.length_cons, List.length_nil, Nat.zero_add] at C4
  go_upto_region 22 with fail
  go_cut [31, 32] (fun s1_ s2_ wx => s1_ = .bool c ∧ s2_ = .int .i64 0 ∧ Below w13.heap.size w13 wx)
  case first =>
    have kpf : ∀ {W : World}, Below w13.heap.size w13 W → W.cell? ⟨w.heap.size, 0, none⟩ = some (.int .i64 ex) ∧ W.cell? ⟨w.heap.size, 1, none⟩ = some (.int .i64 ey) ∧ W.cell? ⟨w.heap.size, 2, none⟩ = some (.int .i64 ez) ∧ W.cell? ⟨w.heap.size + 1, 0, none⟩ = some (.int .i64 tx) ∧ W.cell? ⟨w.heap.size + 1, 1, none⟩ = some (.int .i64 ty) ∧ W.cell? ⟨w.heap.size + 1, 2, none⟩ = some (.int .i64 tz) ∧ W.cell? ⟨w.heap.size + 1 + 1, 0, none⟩ = some (.int .i64 rn) ∧ W.cell? ⟨w.heap.size + 1 + 1, 1, none⟩ = some (.int .i64 rd) ∧ W.cell? ⟨w.heap.size + 1 + 1 + 1 + 1, 0, none⟩ = some (.slice nA n.length nC) ∧ W.cell? ⟨w.heap.size + 1 + 1 + 1 + 1, 1, none⟩ = some (.int .i64 nl) ∧ W.cell? ⟨w.heap.size + 1 + 1 + 1 + 1, 2, none⟩ = some (.int .i64 nh) := fun h => ⟨keepc h p0, keepc h p1, keepc h p2, keepc h q0, keepc h q1, keepc h q2, keepc h r0, keepc h r1, keepc h y0, keepc h y1, keepc h y2⟩
    refine wp_region_held_drew (S := fun V => V.cell? ⟨w.heap.size, 0, none⟩ = some (.int .i64 ex) ∧ V.cell? ⟨w.heap.size, 1, none⟩ = some (.int .i64 ey) ∧ V.cell? ⟨w.heap.size, 2, none⟩ = some (.int .i64 ez) ∧ V.cell? ⟨w.heap.size + 1, 0, none⟩ = some (.int .i64 tx) ∧ V.cell? ⟨w.heap.size + 1, 1, none⟩ = some (.int .i64 ty) ∧ V.cell? ⟨w.heap.size + 1, 2, none⟩ = some (.int .i64 tz) ∧ V.cell? ⟨w.heap.size + 1 + 1, 0, none⟩ = some (.int .i64 rn) ∧ V.cell? ⟨w.heap.size + 1 + 1, 1, none⟩ = some (.int .i64 rd) ∧ V.cell? ⟨w.heap.size + 1 + 1 + 1 + 1, 0, none⟩ = some (.slice nA n.length nC) ∧ V.cell? ⟨w.heap.size + 1 + 1 + 1 + 1, 1, none⟩ = some (.int .i64 nl) ∧ V.cell? ⟨w.heap.size + 1 + 1 + 1 + 1, 2, none⟩ = some (.int .i64 nh)) (by kernel_rfl) (kpf (Below.refl _ _).drew) fun HL_ => ?_
    clear p0 p1 p2 q0 q1 q2 r0 r1 s0 s1 y0 y1 y2 lp lq lr ls ly kp kq kr ks ky HF HG C1 C2 C3 C6 CV hz
    refine wpAnyH_take (i := 0) (v := .slice tA t.length tC) rfl (by kernel_rfl) (by kernel_rfl) (by kernel_rfl) (fun _ _ _ h => h) (Or.inl ⟨by kernel_rfl, ?_⟩) HL_ ?_
    · rintro Wl ⟨s0, s1, s2, s3, s4, s5, s6, s7, s8, s9, s10⟩
      go_simp
    simp only [Act.put, List.getElem_toArray, List.getElem_cons_succ, List.getElem_cons_zero, List.setIfInBounds_toArray, List.set_cons_zero, List.set_cons_succ]
    refine wpAnyH_take (i := 1) (v := .int .i64 m) rfl (by kernel_rfl) (by kernel_rfl) (by kernel_rfl) (fun _ _ _ h => h) (Or.inl ⟨by kernel_rfl, ?_⟩) HL_ ?_
    · rintro Wl ⟨s0, s1, s2, s3, s4, s5, s6, s7, s8, s9, s10⟩
      go_simp
    simp only [Act.put, List.getElem_toArray, List.getElem_cons_succ, List.getElem_cons_zero, List.setIfInBounds_toArray, List.set_cons_zero, List.set_cons_succ]
    refine wpAnyH_take (i := 2) (v := .agg #[.int .i64 ex, .int .i64 ey, .int .i64 ez]) rfl (by kernel_rfl) (by kernel_rfl) (by kernel_rfl) (fun _ _ _ h => h) (Or.inl ⟨by kernel_rfl, ?_⟩) HL_ ?_
    · rintro Wl ⟨s0, s1, s2, s3, s4, s5, s6, s7, s8, s9, s10⟩
      go_simp
    simp only [Act.put, List.getElem_toArray, List.getElem_cons_succ, List.getElem_cons_zero, List.setIfInBounds_toArray, List.set_cons_zero, List.set_cons_succ]
    refine wpAnyH_take (i := 3) (v := .agg #[.int .i64 tx, .int .i64 ty, .int .i64 tz]) rfl (by kernel_rfl) (by kernel_rfl) (by kernel_rfl) (fun _ _ _ h => h) (Or.inl ⟨by kernel_rfl, ?_⟩) HL_ ?_
    · rintro Wl ⟨s0, s1, s2, s3, s4, s5, s6, s7, s8, s9, s10⟩
      go_simp
    simp only [Act.put, List.getElem_toArray, List.getElem_cons_succ, List.getElem_cons_zero, List.setIfInBounds_toArray, List.set_cons_zero, List.set_cons_succ]
    refine wpAnyH_take (i := 4) (v := .agg #[.int .i64 rn, .int .i64 rd]) rfl (by kernel_rfl) (by kernel_rfl) (by kernel_rfl) (fun _ _ _ h => h) (Or.inl ⟨by kernel_rfl, ?_⟩) HL_ ?_
    · rintro Wl ⟨s0, s1, s2, s3, s4, s5, s6, s7, s8, s9, s10⟩
      go_simp
    simp only [Act.put, List.getElem_toArray, List.getElem_cons_succ, List.getElem_cons_zero, List.setIfInBounds_toArray, List.set_cons_zero, List.set_cons_succ]
    refine wpAnyH_take (i := 6) (v := .slice bA b.length bC) rfl (by kernel_rfl) (by kernel_rfl) (by kernel_rfl) (fun _ _ _ h => h) (Or.inl ⟨by kernel_rfl, ?_⟩) HL_ ?_
    · rintro Wl ⟨s0, s1, s2, s3, s4, s5, s6, s7, s8, s9, s10⟩
      go_simp
    simp only [Act.put, List.getElem_toArray, List.getElem_cons_succ, List.getElem_cons_zero, List.setIfInBounds_toArray, List.set_cons_zero, List.set_cons_succ]
    refine wpAnyH_take (i := 8) (v := .agg #[.slice nA n.length nC, .int .i64 nl, .int .i64 nh]) rfl (by kernel_rfl) (by kernel_rfl) (by kernel_rfl) (fun _ _ _ h => h) (Or.inl ⟨by kernel_rfl, ?_⟩) HL_ ?_
    · rintro Wl ⟨s0, s1, s2, s3, s4, s5, s6, s7, s8, s9, s10⟩
      go_simp
    simp only [Act.put, List.getElem_toArray, List.getElem_cons_succ, List.getElem_cons_zero, List.setIfInBounds_toArray, List.set_cons_zero, List.set_cons_succ]
    refine wpAnyH_ready (rs := [5, 9]) (by kernel_rfl) (by simp) ?_
    refine AllReadyH.cons (o := _) rfl (fun K hK => ?_) (AllReadyH.cons (o := _) rfl (fun K hK => ?_) AllReadyH.nil)
    · as_aux_lemma =>
        go_simp
        have own := (own_lit w13 w13.heap.size 59 3 (Nat.le_refl _)).drew
        have hbX : Below w13.heap.size w13 (w13.alloc (.cells #[] 59)).drew := (below_new w13 (.cells #[] 59)).drew
        have lL : w13.heap.size < (w13.alloc (.cells #[] 59)).drew.heap.size := by simp
        refine hK.out _ _ (kpf hbX) fun HL_ => ?_
        clear hK K
        generalize (w13.alloc (.cells #[] 59)).drew = uw1 at *
        refine wpAnyH_ready (rs := [7, 9]) (by kernel_rfl) (by simp) ?_
        refine AllReadyH.cons (o := _) rfl (fun K hK => ?_) (AllReadyH.cons (o := _) rfl (fun K hK => ?_) AllReadyH.nil)
        · as_aux_lemma =>
            refine step_app _ (by rfl) _ _ _ (by rfl) w13.heap.size 59 i0 _ 3 40 Try.underlying22 hi0 hz0 hz1 hz2 rfl (by decide) _ 0 [] (by rfl) own bA b.length bC (flt bvc b) (by rfl) (flt_len bvc_len b) (bds_src (HM.out.below hbX)) (flt_one bvc_one b) m1_ m2_ hbX.size ?_
            intro v1 uw2 own1 gr1
            have hb1 := app_below hbX hbX.size own (Nat.le_refl _) gr1
            clear gr1 own hbX lL
            refine hK.out _ _ (kpf hb1) fun HL_ => ?_
            clear hK K
            have hbX := hb1
            have own := own1
            clear hb1 own1
            refine wpAnyH_ready (rs := [9]) (by kernel_rfl) (by simp) ?_
            refine AllReadyH.cons (o := _) rfl (fun K hK => ?_) AllReadyH.nil
            go_simp
            have kE : (uw2.alloc (.cells #[.slice nA n.length nC, .int .i64 nl, .int .i64 nh] 59)).heap[uw2.heap.size]? = some (.cells #[.slice nA n.length nC, .int .i64 nl, .int .i64 nh] 59 (0, 0)) := World.alloc_heap_new _ _
            have hE := below_new uw2 (.cells #[.slice nA n.length nC, .int .i64 nl, .int .i64 nh] 59)
            have lE : uw2.heap.size < (uw2.alloc (.cells #[.slice nA n.length nC, .int .i64 nl, .int .i64 nh] 59)).heap.size := by simp
            replace own := own_below own hE
            replace hbX := on_below hbX hE
            refine hK.out _ _ (kpf hbX) fun HL_ => ?_
            clear hK K hE
            generalize uw2.alloc (.cells #[.slice nA n.length nC, .int .i64 nl, .int .i64 nh] 59) = uw3 at *
            generalize uw2.heap.size = gE at *
            refine wpAnyH_ready (rs := [10]) (by kernel_rfl) (by simp) ?_
            refine AllReadyH.cons (o := _) rfl (fun K hK => ?_) AllReadyH.nil
            have hcE := cells3 kE
            have HEE := bds_one (b := ⟨nA, nC, n, nl, nh⟩) hcE.1 hcE.2.1 hcE.2.2 (HN.out.below hbX)
            refine step_app _ (by rfl) _ _ _ (by rfl) w13.heap.size 59 i0 _ 3 40 Try.underlying22 hi0 hz0 hz1 hz2 rfl (by decide) _ (0 + b.length) ([] ++ flt bvc b) (by rfl) own (some ⟨gE, 0, none⟩) 1 1 (flt bvc [⟨nA, nC, n, nl, nh⟩]) (by rfl) (flt_len bvc_len [⟨nA, nC, n, nl, nh⟩]) (bds_src HEE) (flt_one bvc_one _) m3_ m4_ hbX.size ?_
            intro v2 uw4 own2 gr2
            have hb2 := app_below hbX hbX.size own (Nat.le_refl _) gr2
            clear gr2 own hbX hcE HEE kE lE
            refine hK.out _ _ (kpf hb2) fun HL_ => ?_
            clear hK K
            rw [List.nil_append, flt_app] at own2
            obtain ⟨xA, xC, rfl, hxn, hx1, hx2, hxs⟩ := own_bds own2 (sls_snoc (HM.out.below hb2) (HN.out.below hb2))
            clear own2 hxn hx1 hx2
            refine wpAnyH_ready (rs := [11]) (by kernel_rfl) (by simp) ?_
            refine AllReadyH.cons (o := _) rfl (fun K hK => ?_) AllReadyH.nil
            go_simp
            with_reducible refine (C4.out xA xC uw4 (HT.out.below hb2) hxs).mono ?_
            rintro e_ uw5 ⟨rfl, hb⟩
            replace hb := on_below hb2 hb
            clear hxs hb2
            refine hK.out _ _ (kpf hb) fun HL_ => ?_
            clear hK K
            refine wpAnyH_take (i := 12) (v := .tuple #[.bool c, .int .i64 0]) rfl (by kernel_rfl) (by kernel_rfl) (by kernel_rfl) (fun _ _ _ h => h) (Or.inl ⟨by kernel_rfl, ?_⟩) HL_ ?_
            · rintro Wl ⟨s0, s1, s2, s3, s4, s5, s6, s7, s8, s9, s10⟩
              go_simp
            simp only [Act.put, List.getElem_toArray, List.getElem_cons_succ, List.getElem_cons_zero, List.setIfInBounds_toArray, List.set_cons_zero, List.set_cons_succ]
            refine wpAnyH_take (i := 13) (v := .bool c) rfl (by kernel_rfl) (by kernel_rfl) (by kernel_rfl) (fun _ _ _ h => h) (Or.inl ⟨by kernel_rfl, ?_⟩) HL_ ?_
            · rintro Wl ⟨s0, s1, s2, s3, s4, s5, s6, s7, s8, s9, s10⟩
              go_simp
            simp only [Act.put, List.getElem_toArray, List.getElem_cons_succ, List.getElem_cons_zero, List.setIfInBounds_toArray, List.set_cons_zero, List.set_cons_succ]
            refine wpAnyH_take (i := 14) (v := .int .i64 0) rfl (by kernel_rfl) (by kernel_rfl) (by kernel_rfl) (fun _ _ _ h => h) (Or.inl ⟨by kernel_rfl, ?_⟩) HL_ ?_
            · rintro Wl ⟨s0, s1, s2, s3, s4, s5, s6, s7, s8, s9, s10⟩
              go_simp
            simp only [Act.put, List.getElem_toArray, List.getElem_cons_succ, List.getElem_cons_zero, List.setIfInBounds_toArray, List.set_cons_zero, List.set_cons_succ]
            refine wpAnyH_take (i := 15) (v := .bool c) rfl (by kernel_rfl) (by kernel_rfl) (by kernel_rfl) (fun _ _ _ h => h) (Or.inl ⟨by kernel_rfl, ?_⟩) HL_ ?_
            · rintro Wl ⟨s0, s1, s2, s3, s4, s5, s6, s7, s8, s9, s10⟩
              go_simp
            simp only [Act.put, List.getElem_toArray, List.getElem_cons_succ, List.getElem_cons_zero, List.setIfInBounds_toArray, List.set_cons_zero, List.set_cons_succ]
            refine wpAnyH_take (i := 16) (v := .int .i64 0) rfl (by kernel_rfl) (by kernel_rfl) (by kernel_rfl) (fun _ _ _ h => h) (Or.inl ⟨by kernel_rfl, ?_⟩) HL_ ?_
            · rintro Wl ⟨s0, s1, s2, s3, s4, s5, s6, s7, s8, s9, s10⟩
              go_simp
            simp only [Act.put, List.getElem_toArray, List.getElem_cons_succ, List.getElem_cons_zero, List.setIfInBounds_toArray, List.set_cons_zero, List.set_cons_succ]
            refine wpAnyH_done (by kernel_rfl) ?_ _
            clear HL_ kpf
            go_wp2_with fail
            go_meet
            exact ⟨rfl, rfl, hb⟩
        · as_aux_lemma =>
            go_simp
            have kE : (uw1.alloc (.cells #[.slice nA n.length nC, .int .i64 nl, .int .i64 nh] 59)).heap[uw1.heap.size]? = some (.cells #[.slice nA n.length nC, .int .i64 nl, .int .i64 nh] 59 (0, 0)) := World.alloc_heap_new _ _
            have hE := below_new uw1 (.cells #[.slice nA n.length nC, .int .i64 nl, .int .i64 nh] 59)
            have lE : uw1.heap.size < (uw1.alloc (.cells #[.slice nA n.length nC, .int .i64 nl, .int .i64 nh] 59)).heap.size := by simp
            replace own := own_below own hE
            replace hbX := on_below hbX hE
            refine hK.out _ _ (kpf hbX) fun HL_ => ?_
            clear hK K hE
            have neE : uw1.heap.size ≠ w13.heap.size := Nat.ne_of_gt lL
            generalize uw1.alloc (.cells #[.slice nA n.length nC, .int .i64 nl, .int .i64 nh] 59) = uw6 at *
            generalize uw1.heap.size = gE at *
            refine wpAnyH_ready (rs := [7]) (by kernel_rfl) (by simp) ?_
            refine AllReadyH.cons (o := _) rfl (fun K hK => ?_) AllReadyH.nil
            refine step_app _ (by rfl) _ _ _ (by rfl) w13.heap.size 59 i0 _ 3 40 Try.underlying22 hi0 hz0 hz1 hz2 rfl (by decide) _ 0 [] (by rfl) own bA b.length bC (flt bvc b) (by rfl) (flt_len bvc_len b) (bds_src (HM.out.below hbX)) (flt_one bvc_one b) m1_ m2_ hbX.size ?_
            intro v1 uw7 own1 gr1
            have kE1 : uw7.heap[gE]? = some (.cells #[.slice nA n.length nC, .int .i64 nl, .int .i64 nh] 59 (0, 0)) := by rw [gr1.block gE lE (by intro e; simp [Value.ownBlock] at e; exact neE e)]; exact kE
            have lE1 := Nat.lt_of_lt_of_le lE gr1.size
            clear kE lE neE
            have hb1 := app_below hbX hbX.size own (Nat.le_refl _) gr1
            clear gr1 own hbX
            refine hK.out _ _ (kpf hb1) fun HL_ => ?_
            clear hK K
            have hbX := hb1
            have own := own1
            clear hb1 own1
            have kE := kE1
            have lE := lE1
            clear kE1 lE1
            refine wpAnyH_ready (rs := [10]) (by kernel_rfl) (by simp) ?_
            refine AllReadyH.cons (o := _) rfl (fun K hK => ?_) AllReadyH.nil
            have hcE := cells3 kE
            have HEE := bds_one (b := ⟨nA, nC, n, nl, nh⟩) hcE.1 hcE.2.1 hcE.2.2 (HN.out.below hbX)
            refine step_app _ (by rfl) _ _ _ (by rfl) w13.heap.size 59 i0 _ 3 40 Try.underlying22 hi0 hz0 hz1 hz2 rfl (by decide) _ (0 + b.length) ([] ++ flt bvc b) (by rfl) own (some ⟨gE, 0, none⟩) 1 1 (flt bvc [⟨nA, nC, n, nl, nh⟩]) (by rfl) (flt_len bvc_len [⟨nA, nC, n, nl, nh⟩]) (bds_src HEE) (flt_one bvc_one _) m3_ m4_ hbX.size ?_
            intro v2 uw8 own2 gr2
            have hb2 := app_below hbX hbX.size own (Nat.le_refl _) gr2
            clear gr2 own hbX hcE HEE kE lE
            refine hK.out _ _ (kpf hb2) fun HL_ => ?_
            clear hK K
            rw [List.nil_append, flt_app] at own2
            obtain ⟨xA, xC, rfl, hxn, hx1, hx2, hxs⟩ := own_bds own2 (sls_snoc (HM.out.below hb2) (HN.out.below hb2))
            clear own2 hxn hx1 hx2
            refine wpAnyH_ready (rs := [11]) (by kernel_rfl) (by simp) ?_
            refine AllReadyH.cons (o := _) rfl (fun K hK => ?_) AllReadyH.nil
            go_simp
            with_reducible refine (C4.out xA xC uw8 (HT.out.below hb2) hxs).mono ?_
            rintro e_ uw9 ⟨rfl, hb⟩
            replace hb := on_below hb2 hb
            clear hxs hb2
            refine hK.out _ _ (kpf hb) fun HL_ => ?_
            clear hK K
            refine wpAnyH_take (i := 12) (v := .tuple #[.bool c, .int .i64 0]) rfl (by kernel_rfl) (by kernel_rfl) (by kernel_rfl) (fun _ _ _ h => h) (Or.inl ⟨by kernel_rfl, ?_⟩) HL_ ?_
            · rintro Wl ⟨s0, s1, s2, s3, s4, s5, s6, s7, s8, s9, s10⟩
              go_simp
            simp only [Act.put, List.getElem_toArray, List.getElem_cons_succ, List.getElem_cons_zero, List.setIfInBounds_toArray, List.set_cons_zero, List.set_cons_succ]
            refine wpAnyH_take (i := 13) (v := .bool c) rfl (by kernel_rfl) (by kernel_rfl) (by kernel_rfl) (fun _ _ _ h => h) (Or.inl ⟨by kernel_rfl, ?_⟩) HL_ ?_
            · rintro Wl ⟨s0, s1, s2, s3, s4, s5, s6, s7, s8, s9, s10⟩
              go_simp
            simp only [Act.put, List.getElem_toArray, List.getElem_cons_succ, List.getElem_cons_zero, List.setIfInBounds_toArray, List.set_cons_zero, List.set_cons_succ]
            refine wpAnyH_take (i := 14) (v := .int .i64 0) rfl (by kernel_rfl) (by kernel_rfl) (by kernel_rfl) (fun _ _ _ h => h) (Or.inl ⟨by kernel_rfl, ?_⟩) HL_ ?_
            · rintro Wl ⟨s0, s1, s2, s3, s4, s5, s6, s7, s8, s9, s10⟩
              go_simp
            simp only [Act.put, List.getElem_toArray, List.getElem_cons_succ, List.getElem_cons_zero, List.setIfInBounds_toArray, List.set_cons_zero, List.set_cons_succ]
            refine wpAnyH_take (i := 15) (v := .bool c) rfl (by kernel_rfl) (by kernel_rfl) (by kernel_rfl) (fun _ _ _ h => h) (Or.inl ⟨by kernel_rfl, ?_⟩) HL_ ?_
            · rintro Wl ⟨s0, s1, s2, s3, s4, s5, s6, s7, s8, s9, s10⟩
              go_simp
            simp only [Act.put, List.getElem_toArray, List.getElem_cons_succ, List.getElem_cons_zero, List.setIfInBounds_toArray, List.set_cons_zero, List.set_cons_succ]
            refine wpAnyH_take (i := 16) (v := .int .i64 0) rfl (by kernel_rfl) (by kernel_rfl) (by kernel_rfl) (fun _ _ _ h => h) (Or.inl ⟨by kernel_rfl, ?_⟩) HL_ ?_
            · rintro Wl ⟨s0, s1, s2, s3, s4, s5, s6, s7, s8, s9, s10⟩
              go_simp
            simp only [Act.put, List.getElem_toArray, List.getElem_cons_succ, List.getElem_cons_zero, List.setIfInBounds_toArray, List.set_cons_zero, List.set_cons_succ]
            refine wpAnyH_done (by kernel_rfl) ?_ _
            clear HL_ kpf
            go_wp2_with fail
            go_meet
            exact ⟨rfl, rfl, hb⟩
    · as_aux_lemma =>
        go_simp
        have kE : (w13.alloc (.cells #[.slice nA n.length nC, .int .i64 nl, .int .i64 nh] 59)).drew.heap[w13.heap.size]? = some (.cells #[.slice nA n.length nC, .int .i64 nl, .int .i64 nh] 59 (0, 0)) := World.alloc_heap_new _ _
        have hbX : Below w13.heap.size w13 (w13.alloc (.cells #[.slice nA n.length nC, .int .i64 nl, .int .i64 nh] 59)).drew := (below_new w13 (.cells #[.slice nA n.length nC, .int .i64 nl, .int .i64 nh] 59)).drew
        have lE : w13.heap.size < (w13.alloc (.cells #[.slice nA n.length nC, .int .i64 nl, .int .i64 nh] 59)).drew.heap.size := by simp
        refine hK.out _ _ (kpf hbX) fun HL_ => ?_
        clear hK K
        generalize (w13.alloc (.cells #[.slice nA n.length nC, .int .i64 nl, .int .i64 nh] 59)).drew = uw10 at *
        obtain ⟨gE, hgE⟩ : ∃ g, w13.heap.size = g := ⟨_, rfl⟩
        rw [hgE] at kE lE ⊢
        clear hgE
        refine wpAnyH_ready (rs := [5]) (by kernel_rfl) (by simp) ?_
        refine AllReadyH.cons (o := _) rfl (fun K hK => ?_) AllReadyH.nil
        go_simp
        have own := own_lit uw10 w13.heap.size 59 3 hbX.size
        have hL := below_new uw10 (.cells #[] 59)
        replace kE := blk_on kE hL
        have neE : gE ≠ uw10.heap.size := Nat.ne_of_lt lE
        replace lE := Nat.lt_of_lt_of_le lE hL.size
        replace hbX := on_below hbX hL
        refine hK.out _ _ (kpf hbX) fun HL_ => ?_
        clear hK K hL
        generalize uw10.alloc (.cells #[] 59) = uw11 at *
        generalize uw10.heap.size = gL at *
        refine wpAnyH_ready (rs := [7]) (by kernel_rfl) (by simp) ?_
        refine AllReadyH.cons (o := _) rfl (fun K hK => ?_) AllReadyH.nil
        refine step_app _ (by rfl) _ _ _ (by rfl) w13.heap.size 59 i0 _ 3 40 Try.underlying22 hi0 hz0 hz1 hz2 rfl (by decide) _ 0 [] (by rfl) own bA b.length bC (flt bvc b) (by rfl) (flt_len bvc_len b) (bds_src (HM.out.below hbX)) (flt_one bvc_one b) m1_ m2_ hbX.size ?_
        intro v1 uw12 own1 gr1
        have kE1 : uw12.heap[gE]? = some (.cells #[.slice nA n.length nC, .int .i64 nl, .int .i64 nh] 59 (0, 0)) := by rw [gr1.block gE lE (by intro e; simp [Value.ownBlock] at e; exact neE e)]; exact kE
        have lE1 := Nat.lt_of_lt_of_le lE gr1.size
        clear kE lE neE
        have hb1 := app_below hbX hbX.size own (Nat.le_refl _) gr1
        clear gr1 own hbX
        refine hK.out _ _ (kpf hb1) fun HL_ => ?_
        clear hK K
        have hbX := hb1
        have own := own1
        clear hb1 own1
        have kE := kE1
        have lE := lE1
        clear kE1 lE1
        refine wpAnyH_ready (rs := [10]) (by kernel_rfl) (by simp) ?_
        refine AllReadyH.cons (o := _) rfl (fun K hK => ?_) AllReadyH.nil
        have hcE := cells3 kE
        have HEE := bds_one (b := ⟨nA, nC, n, nl, nh⟩) hcE.1 hcE.2.1 hcE.2.2 (HN.out.below hbX)
        refine step_app _ (by rfl) _ _ _ (by rfl) w13.heap.size 59 i0 _ 3 40 Try.underlying22 hi0 hz0 hz1 hz2 rfl (by decide) _ (0 + b.length) ([] ++ flt bvc b) (by rfl) own (some ⟨gE, 0, none⟩) 1 1 (flt bvc [⟨nA, nC, n, nl, nh⟩]) (by rfl) (flt_len bvc_len [⟨nA, nC, n, nl, nh⟩]) (bds_src HEE) (flt_one bvc_one _) m3_ m4_ hbX.size ?_
        intro v2 uw13 own2 gr2
        have hb2 := app_below hbX hbX.size own (Nat.le_refl _) gr2
        clear gr2 own hbX hcE HEE kE lE
        refine hK.out _ _ (kpf hb2) fun HL_ => ?_
        clear hK K
        rw [List.nil_append, flt_app] at own2
        obtain ⟨xA, xC, rfl, hxn, hx1, hx2, hxs⟩ := own_bds own2 (sls_snoc (HM.out.below hb2) (HN.out.below hb2))
        clear own2 hxn hx1 hx2
        refine wpAnyH_ready (rs := [11]) (by kernel_rfl) (by simp) ?_
        refine AllReadyH.cons (o := _) rfl (fun K hK => ?_) AllReadyH.nil
        go_simp
        with_reducible refine (C4.out xA xC uw13 (HT.out.below hb2) hxs).mono ?_
        rintro e_ uw14 ⟨rfl, hb⟩
        replace hb := on_below hb2 hb
        clear hxs hb2
        refine hK.out _ _ (kpf hb) fun HL_ => ?_
        clear hK K
        refine wpAnyH_take (i := 12) (v := .tuple #[.bool c, .int .i64 0]) rfl (by kernel_rfl) (by kernel_rfl) (by kernel_rfl) (fun _ _ _ h => h) (Or.inl ⟨by kernel_rfl, ?_⟩) HL_ ?_
        · rintro Wl ⟨s0, s1, s2, s3, s4, s5, s6, s7, s8, s9, s10⟩
          go_simp
        simp only [Act.put, List.getElem_toArray, List.getElem_cons_succ, List.getElem_cons_zero, List.setIfInBounds_toArray, List.set_cons_zero, List.set_cons_succ]
        refine wpAnyH_take (i := 13) (v := .bool c) rfl (by kernel_rfl) (by kernel_rfl) (by kernel_rfl) (fun _ _ _ h => h) (Or.inl ⟨by kernel_rfl, ?_⟩) HL_ ?_
        · rintro Wl ⟨s0, s1, s2, s3, s4, s5, s6, s7, s8, s9, s10⟩
          go_simp
        simp only [Act.put, List.getElem_toArray, List.getElem_cons_succ, List.getElem_cons_zero, List.setIfInBounds_toArray, List.set_cons_zero, List.set_cons_succ]
        refine wpAnyH_take (i := 14) (v := .int .i64 0) rfl (by kernel_rfl) (by kernel_rfl) (by kernel_rfl) (fun _ _ _ h => h) (Or.inl ⟨by kernel_rfl, ?_⟩) HL_ ?_
        · rintro Wl ⟨s0, s1, s2, s3, s4, s5, s6, s7, s8, s9, s10⟩
          go_simp
        simp only [Act.put, List.getElem_toArray, List.getElem_cons_succ, List.getElem_cons_zero, List.setIfInBounds_toArray, List.set_cons_zero, List.set_cons_succ]
        refine wpAnyH_take (i := 15) (v := .bool c) rfl (by kernel_rfl) (by kernel_rfl) (by kernel_rfl) (fun _ _ _ h => h) (Or.inl ⟨by kernel_rfl, ?_⟩) HL_ ?_
        · rintro Wl ⟨s0, s1, s2, s3, s4, s5, s6, s7, s8, s9, s10⟩
          go_simp
        simp only [Act.put, List.getElem_toArray, List.getElem_cons_succ, List.getElem_cons_zero, List.setIfInBounds_toArray, List.set_cons_zero, List.set_cons_succ]
        refine wpAnyH_take (i := 16) (v := .int .i64 0) rfl (by kernel_rfl) (by kernel_rfl) (by kernel_rfl) (fun _ _ _ h => h) (Or.inl ⟨by kernel_rfl, ?_⟩) HL_ ?_
        · rintro Wl ⟨s0, s1, s2, s3, s4, s5, s6, s7, s8, s9, s10⟩
          go_simp
        simp only [Act.put, List.getElem_toArray, List.getElem_cons_succ, List.getElem_cons_zero, List.setIfInBounds_toArray, List.set_cons_zero, List.set_cons_succ]
        refine wpAnyH_done (by kernel_rfl) ?_ _
        clear HL_ kpf
        go_wp2_with fail
        go_meet
        exact ⟨rfl, rfl, hb⟩
  obtain ⟨rfl, rfl, hb⟩ := hcut
  replace HB := Lib.hid (on_below HB.out hb)
  clear hb p0 p1 p2 q0 q1 q2 r0 r1 s0 s1 y0 y1 y2 lp lq lr ls ly kp kq kr ks ky
  cases u <;> cases c
  all_goals (first | (exact absurd hK2 (by decide)) | skip)
  all_goals clear hK2
  all_goals go_wp2_with fail
  all_goals go_ret
  all_goals exact ⟨rfl, HB.out⟩
end Go.Proofs.Ytgjcmolocoijiaa.LawGlare
