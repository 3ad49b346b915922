/-
  P6.3: a signature is right exactly if its E is the challenge that the words ask for: also one that was changed, for another message, and for another key. For any three numbers that secrets are made of, any two lists, and any two integers to change by.
  Conditions: none besides the row's.
-/
import Derived.Test.YtiapigoknlaihaaDoorSgnX
import Derived.Test.YtiapigoknlaihaaDoorCards
import Derived.Test.YtiapigoknlaihaaDoorTie
import Derived.Deep.DeepCutAuto
namespace Go.Proofs.YtiapigoknlaihaaDoor.signChallenges
open Go.RowKit Go.Sort
open Go.RowKit (Below)
set_option linter.unusedVariables false
set_option linter.unusedSimpArgs false

set_option maxRecDepth 100000 in
set_option maxHeartbeats 4000000 in
theorem law_any (k : Int) (ik : U64 k) (o : Int) (io : U64 o) (z : Int) (iz : U64 z) (mA : Option Addr) (mC : Nat) (m : List Int) (jm : ∀ x ∈ m, I64 x) (km : m.length ≤ mC ∧ mC ≤ 9223372036854775807) (nA : Option Addr) (nC : Nat) (n : List Int) (jn : ∀ x ∈ n, I64 x) (kn : n.length ≤ nC ∧ nC ≤ 9223372036854775807) (dE dS : Int) (idE : I64 dE) (idS : I64 dS) (w : World) (hs : St w) (sm : Sk .i64 w mA m) (sn : Sk .i64 w nA n) :
    Calls Tryd.prog 5 #[.int .u64 k, .int .u64 o, .int .u64 z, .slice mA m.length mC, .slice nA n.length nC, .agg #[.int .i64 dE, .int .i64 dS]] w fun e w' => e = .returned (.bool true) ∧ Below w.heap.size w w' := by
  have HS := Lib.hid hs
  clear hs
  obtain ⟨x, hx, x1, x2⟩ := secret_ex k ik
  obtain ⟨y, hy, y1, y2⟩ := secret_ex o io
  obtain ⟨v, hv, v1, v2⟩ := secret_ex z iz
  obtain ⟨ys, fm⟩ := few_mk sm jm
  obtain ⟨zs, fn⟩ := few_mk sn jn
  obtain ⟨p, e, s, hf⟩ := sf x1 x2 y1 y2 fm.len
  obtain ⟨q, hq⟩ := pk v1 v2
  obtain ⟨e2, le2, he2⟩ := moved_is e hf.le dE idE
  obtain ⟨s2, ls2, hs2⟩ := moved_is s hf.ls dS idS
  have SX := Lib.hid (fun W => secret_is k ik x hx W)
  have SY := Lib.hid (fun W => secret_is o io y hy W)
  have SV := Lib.hid (fun W => secret_is z iz v hv W)
  have FM := Lib.hid (fun W => few_any mA mC m ys fm.tk w W sm km.1 km.2)
  have HF := Lib.hid hf
  have HM := Lib.hid fm.sk
  have HI := Lib.hid fm.i
  have HL := Lib.hid fm.len
  have FN := Lib.hid (fun W => few_any nA nC n zs fn.tk w W sn kn.1 kn.2)
  have HN := Lib.hid fn.sk
  have HJ := Lib.hid fn.i
  have HK := Lib.hid fn.len
  have HQ := Lib.hid hq
  have M1 := Lib.hid he2
  have M2 := Lib.hid hs2
  have IP := Lib.hid (show I64 (p : Int) from ⟨by omega, by have := hf.lp; omega⟩)
  have IQ := Lib.hid (show I64 (q : Int) from ⟨by omega, by have := hq.lp; omega⟩)
  obtain ⟨c1, hc1⟩ : ∃ c, chV (bakN p e2 s2 : Nat) p ys = c := ⟨_, rfl⟩
  have VE1 := Lib.hid (vf_ok (p := p) (e := e2) (s := s2) (msg := ys) hf.el le2 ls2 fm.len)
  have VB1 := Lib.hid (vf_is hf.el le2 ls2 fm.len hc1)
  have C1 := Lib.hid hc1
  have BK1 := Lib.hid (fun W => back_any p e2 s2 hf.lp le2 ls2 W)
  have BI1 := Lib.hid (bak_i64 p e2 s2)
  obtain ⟨c2, hc2⟩ : ∃ c, chV (bakN p e s : Nat) p zs = c := ⟨_, rfl⟩
  have VE2 := Lib.hid (vf_ok (p := p) (e := e) (s := s) (msg := zs) hf.el hf.le hf.ls fn.len)
  have VB2 := Lib.hid (vf_is hf.el hf.le hf.ls fn.len hc2)
  have C2 := Lib.hid hc2
  have BK2 := Lib.hid (fun W => back_any p e s hf.lp hf.le hf.ls W)
  have BI2 := Lib.hid (bak_i64 p e s)
  obtain ⟨c3, hc3⟩ : ∃ c, chV (bakN q e s : Nat) q ys = c := ⟨_, rfl⟩
  have VE3 := Lib.hid (vf_ok (p := q) (e := e) (s := s) (msg := ys) hq.el hf.le hf.ls fm.len)
  have VB3 := Lib.hid (vf_is hq.el hf.le hf.ls fm.len hc3)
  have C3 := Lib.hid hc3
  have BK3 := Lib.hid (fun W => back_any q e s hq.lp hf.le hf.ls W)
  have BI3 := Lib.hid (bak_i64 q e s)
  clear hx hy hv ik io iz x1 x2 y1 y2 v1 v2 hf hq fm fn sm jm km sn jn kn he2 hs2 le2 ls2 hc1 hc2 hc3 idE idS
  generalize bakN p e2 s2 = b1 at *
  generalize bakN p e s = b2 at *
  generalize bakN q e s = b3 at *
  obtain ⟨r1, hr1⟩ : ∃ r, ((c1 : Int) == e2) = r := ⟨_, rfl⟩
  rw [hr1] at VB1
  obtain ⟨r2, hr2⟩ : ∃ r, ((c2 : Int) == e) = r := ⟨_, rfl⟩
  rw [hr2] at VB2
  obtain ⟨r3, hr3⟩ : ∃ r, ((c3 : Int) == e) = r := ⟨_, rfl⟩
  rw [hr3] at VB3
  have HB := Lib.hid (Below.refl w.heap.size w)
  go_enter Tryd.func5, Tryd.ntmps5
  go_wp2_with fail
  have d0 : World.cell? (w.alloc (.cells #[.int .i64 dE, .int .i64 dS] 23)) ⟨w.heap.size, 0, none⟩ = some (.int .i64 dE) := by simp [go_sem]
  have d1 : World.cell? (w.alloc (.cells #[.int .i64 dE, .int .i64 dS] 23)) ⟨w.heap.size, 1, none⟩ = some (.int .i64 dS) := by simp [go_sem]
  have ld : w.heap.size < (w.alloc (.cells #[.int .i64 dE, .int .i64 dS] 23)).heap.size := by simp
  have hb : Below w.heap.size w (w.alloc (.cells #[.int .i64 dE, .int .i64 dS] 23)) := below_new _ _
  have zd : (w.alloc (.cells #[.int .i64 dE, .int .i64 dS] 23)).heap.size = w.heap.size + 1 := by simp
  generalize w.alloc (.cells #[.int .i64 dE, .int .i64 dS] 23) = w1 at *
  replace HB := Lib.hid (on_below HB.out hb)
  replace HS := Lib.hid (HS.out.on hb)
  replace HM := Lib.hid (HM.out.below hb)
  replace HN := Lib.hid (HN.out.below hb)
  clear hb
  refine (head_any _ HS.out).mono ?_
  rintro e_ w2 ⟨rfl, hb⟩
  replace HB := Lib.hid (on_below HB.out hb)
  replace HS := Lib.hid (HS.out.on hb)
  replace HM := Lib.hid (HM.out.below hb)
  replace HN := Lib.hid (HN.out.below hb)
  replace d0 := keepc hb d0
  replace d1 := keepc hb d1
  replace ld := Nat.lt_of_lt_of_le ld hb.size
  clear hb
  go_wp2_with fail
  refine (FM.out _).mono ?_
  rintro e_ wq ⟨rfl, hw⟩
  subst hw
  go_wp2_with fail
  refine (FN.out _).mono ?_
  rintro e_ wq ⟨rfl, hw⟩
  subst hw
  go_wp2_with fail
  refine (SX.out _).mono ?_
  rintro e_ wq ⟨rfl, hw⟩
  subst hw
  go_wp2_with fail
  refine (public_is x _ _ HF.out.fV HF.out.fE _).mono ?_
  rintro e_ w3 ⟨rfl, hb⟩
  replace HB := Lib.hid (on_below HB.out hb)
  replace HS := Lib.hid (HS.out.on hb)
  replace HM := Lib.hid (HM.out.below hb)
  replace HN := Lib.hid (HN.out.below hb)
  replace d0 := keepc hb d0
  replace d1 := keepc hb d1
  replace ld := Nat.lt_of_lt_of_le ld hb.size
  clear hb
  go_wp2_with fail
  refine (SV.out _).mono ?_
  rintro e_ wq ⟨rfl, hw⟩
  subst hw
  go_wp2_with fail
  refine (public_is v _ _ HQ.out.fV HQ.out.fE _).mono ?_
  rintro e_ w4 ⟨rfl, hb⟩
  replace HB := Lib.hid (on_below HB.out hb)
  replace HS := Lib.hid (HS.out.on hb)
  replace HM := Lib.hid (HM.out.below hb)
  replace HN := Lib.hid (HN.out.below hb)
  replace d0 := keepc hb d0
  replace d1 := keepc hb d1
  replace ld := Nat.lt_of_lt_of_le ld hb.size
  clear hb
  go_wp2_with fail
  refine (SX.out _).mono ?_
  rintro e_ wq ⟨rfl, hw⟩
  subst hw
  go_wp2_with fail
  refine (SY.out _).mono ?_
  rintro e_ wq ⟨rfl, hw⟩
  subst hw
  go_wp2_with fail
  refine (sign_is x y mA mC ys e s 0 HF.out.err HF.out.fC HF.out.fS _ HS.out (by have := HL.out; omega) HI.out HM.out).mono ?_
  rintro e_ w5 ⟨rfl, hb⟩
  replace HB := Lib.hid (on_below HB.out hb)
  replace HS := Lib.hid (HS.out.on hb)
  replace HM := Lib.hid (HM.out.below hb)
  replace HN := Lib.hid (HN.out.below hb)
  replace d0 := keepc hb d0
  replace d1 := keepc hb d1
  replace ld := Nat.lt_of_lt_of_le ld hb.size
  clear hb
  go_wp2_with fail
  have a0 : World.cell? (w5.alloc (.cells #[.int .i64 e, .int .i64 s] 23)) ⟨w5.heap.size, 0, none⟩ = some (.int .i64 e) := by simp [go_sem]
  have a1 : World.cell? (w5.alloc (.cells #[.int .i64 e, .int .i64 s] 23)) ⟨w5.heap.size, 1, none⟩ = some (.int .i64 s) := by simp [go_sem]
  have la : w5.heap.size < (w5.alloc (.cells #[.int .i64 e, .int .i64 s] 23)).heap.size := by simp
  have hb : Below w5.heap.size w5 (w5.alloc (.cells #[.int .i64 e, .int .i64 s] 23)) := below_new _ _
  have za : (w5.alloc (.cells #[.int .i64 e, .int .i64 s] 23)).heap.size = w5.heap.size + 1 := by simp
  generalize w5.alloc (.cells #[.int .i64 e, .int .i64 s] 23) = w6 at *
  replace HB := Lib.hid (on_below HB.out hb)
  replace HS := Lib.hid (HS.out.on hb)
  replace HM := Lib.hid (HM.out.below hb)
  replace HN := Lib.hid (HN.out.below hb)
  replace d0 := keepc hb d0
  replace d1 := keepc hb d1
  replace ld := Nat.lt_of_lt_of_le ld hb.size
  clear hb
  generalize w5.heap.size = ga at *
  refine (rexponent_any e true HF.out.ex _).mono ?_
  rintro e_ wq ⟨rfl, hw⟩
  subst hw
  go_wp2_with fail
  refine (rexponent_any s true HF.out.es _).mono ?_
  rintro e_ wq ⟨rfl, hw⟩
  subst hw
  go_wp2_with fail
  go_region_held3 (fun W => W.cell? ⟨w.heap.size, 0, none⟩ = some (.int .i64 dE) ∧ W.cell? ⟨w.heap.size, 1, none⟩ = some (.int .i64 dS) ∧ W.cell? ⟨ga, 0, none⟩ = some (.int .i64 e) ∧ W.cell? ⟨ga, 1, none⟩ = some (.int .i64 s) ∧ w.heap.size < W.heap.size ∧ ga < W.heap.size)
    (first | assumption | exact ⟨d0, d1, a0, a1, ld, la⟩ | (go_split_ands; exact ⟨far_al (by assumption) (by assumption), far_al (by assumption) (by assumption), far_al (by assumption) (by assumption), far_al (by assumption) (by assumption), up_al (by assumption), up_al (by assumption)⟩) | trace_state)
    (first | (go_at_call 20; (with_reducible refine (M1.out _).mono ?_); rintro e_ wq ⟨rfl, rfl⟩) | (go_at_call 20; (with_reducible refine (M2.out _).mono ?_); rintro e_ wq ⟨rfl, rfl⟩))
  all_goals
    have t0 : World.cell? ((w6.alloc (.cells #[.int .i64 e2, .int .i64 s2] 23)).drew) ⟨ga + 1, 0, none⟩ = some (.int .i64 e2) := by rw [← za]; simp [go_sem]
    have t1 : World.cell? ((w6.alloc (.cells #[.int .i64 e2, .int .i64 s2] 23)).drew) ⟨ga + 1, 1, none⟩ = some (.int .i64 s2) := by rw [← za]; simp [go_sem]
    have lt : ga + 1 < (World.heap ((w6.alloc (.cells #[.int .i64 e2, .int .i64 s2] 23)).drew)).size := by rw [← za]; simp
    have hb : Below w6.heap.size w6 ((w6.alloc (.cells #[.int .i64 e2, .int .i64 s2] 23)).drew) := (below_new _ _).drew
    go_split_ands
    generalize ((w6.alloc (.cells #[.int .i64 e2, .int .i64 s2] 23)).drew) = w7 at *
    replace HB := Lib.hid (on_below HB.out hb)
    replace HS := Lib.hid (HS.out.on hb)
    replace HM := Lib.hid (HM.out.below hb)
    replace HN := Lib.hid (HN.out.below hb)
    replace d0 := keepc hb d0
    replace d1 := keepc hb d1
    replace a0 := keepc hb a0
    replace a1 := keepc hb a1
    replace ld := Nat.lt_of_lt_of_le ld hb.size
    replace la := Nat.lt_of_lt_of_le la hb.size
    clear hb
    generalize ga + 1 = gt at *
    go_wp2_with fail
    refine (verify_is p e2 s2 mA mC ys r1 0 VE1.out VB1.out _ HS.out (by have := HL.out; omega) HI.out HM.out).mono ?_
    rintro e_ w8 ⟨rfl, hb⟩
    replace HB := Lib.hid (on_below HB.out hb)
    replace HS := Lib.hid (HS.out.on hb)
    replace HM := Lib.hid (HM.out.below hb)
    replace HN := Lib.hid (HN.out.below hb)
    replace d0 := keepc hb d0
    replace d1 := keepc hb d1
    replace a0 := keepc hb a0
    replace a1 := keepc hb a1
    replace t0 := keepc hb t0
    replace t1 := keepc hb t1
    replace ld := Nat.lt_of_lt_of_le ld hb.size
    replace la := Nat.lt_of_lt_of_le la hb.size
    replace lt := Nat.lt_of_lt_of_le lt hb.size
    clear hb
    go_wp2_with fail
    refine (verify_is p e s nA nC zs r2 0 VE2.out VB2.out _ HS.out (by have := HK.out; omega) HJ.out HN.out).mono ?_
    rintro e_ w9 ⟨rfl, hb⟩
    replace HB := Lib.hid (on_below HB.out hb)
    replace HS := Lib.hid (HS.out.on hb)
    replace HM := Lib.hid (HM.out.below hb)
    replace HN := Lib.hid (HN.out.below hb)
    replace d0 := keepc hb d0
    replace d1 := keepc hb d1
    replace a0 := keepc hb a0
    replace a1 := keepc hb a1
    replace t0 := keepc hb t0
    replace t1 := keepc hb t1
    replace ld := Nat.lt_of_lt_of_le ld hb.size
    replace la := Nat.lt_of_lt_of_le la hb.size
    replace lt := Nat.lt_of_lt_of_le lt hb.size
    clear hb
    go_wp2_with fail
    refine (verify_is q e s mA mC ys r3 0 VE3.out VB3.out _ HS.out (by have := HL.out; omega) HI.out HM.out).mono ?_
    rintro e_ w10 ⟨rfl, hb⟩
    replace HB := Lib.hid (on_below HB.out hb)
    replace HS := Lib.hid (HS.out.on hb)
    replace HM := Lib.hid (HM.out.below hb)
    replace HN := Lib.hid (HN.out.below hb)
    replace d0 := keepc hb d0
    replace d1 := keepc hb d1
    replace a0 := keepc hb a0
    replace a1 := keepc hb a1
    replace t0 := keepc hb t0
    replace t1 := keepc hb t1
    replace ld := Nat.lt_of_lt_of_le ld hb.size
    replace la := Nat.lt_of_lt_of_le la hb.size
    replace lt := Nat.lt_of_lt_of_le lt hb.size
    clear hb
    go_wp2_with fail
    have lq : ys.length ≤ 900 := by have := HL.out; omega
    go_region_held3 (fun W => W.cell? ⟨gt, 0, none⟩ = some (.int .i64 e2) ∧ W.cell? ⟨gt, 1, none⟩ = some (.int .i64 s2) ∧ Below w10.heap.size w10 W)
      (first | assumption | exact ⟨t0, t1, (Below.refl _ _).drew⟩ | (go_split_ands; exact ⟨keepc hb (by assumption), keepc hb (by assumption), on_below (by assumption) hb⟩))
      (first | (go_at_call 22; (with_reducible refine (BK1.out _).mono ?_); rintro e_ w11 ⟨rfl, hb⟩) | (go_at_call 21; (with_reducible refine (rchallenge_any b1 p BI1.out IP.out mA mC ys c1 C1.out _ lq HI.out ?_).mono ?_); (go_split_ands; exact HM.out.below (by assumption)); rintro e_ w11 ⟨rfl, hb⟩))
    go_split_ands
    clear hb lq
    have hb : Below w10.heap.size w10 w11 := by assumption
    replace HB := Lib.hid (on_below HB.out hb)
    replace HS := Lib.hid (HS.out.on hb)
    replace HM := Lib.hid (HM.out.below hb)
    replace HN := Lib.hid (HN.out.below hb)
    replace d0 := keepc hb d0
    replace d1 := keepc hb d1
    replace a0 := keepc hb a0
    replace a1 := keepc hb a1
    replace t0 := keepc hb t0
    replace t1 := keepc hb t1
    replace ld := Nat.lt_of_lt_of_le ld hb.size
    replace la := Nat.lt_of_lt_of_le la hb.size
    replace lt := Nat.lt_of_lt_of_le lt hb.size
    clear hb
    go_wp2_with fail
    have lq : zs.length ≤ 900 := by have := HK.out; omega
    go_region_held3 (fun W => W.cell? ⟨ga, 0, none⟩ = some (.int .i64 e) ∧ W.cell? ⟨ga, 1, none⟩ = some (.int .i64 s) ∧ Below w11.heap.size w11 W)
      (first | assumption | exact ⟨a0, a1, (Below.refl _ _).drew⟩ | (go_split_ands; exact ⟨keepc hb (by assumption), keepc hb (by assumption), on_below (by assumption) hb⟩))
      (first | (go_at_call 22; (with_reducible refine (BK2.out _).mono ?_); rintro e_ w12 ⟨rfl, hb⟩) | (go_at_call 21; (with_reducible refine (rchallenge_any b2 p BI2.out IP.out nA nC zs c2 C2.out _ lq HJ.out ?_).mono ?_); (go_split_ands; exact HN.out.below (by assumption)); rintro e_ w12 ⟨rfl, hb⟩))
    go_split_ands
    clear hb lq
    have hb : Below w11.heap.size w11 w12 := by assumption
    replace HB := Lib.hid (on_below HB.out hb)
    replace HS := Lib.hid (HS.out.on hb)
    replace HM := Lib.hid (HM.out.below hb)
    replace HN := Lib.hid (HN.out.below hb)
    replace d0 := keepc hb d0
    replace d1 := keepc hb d1
    replace a0 := keepc hb a0
    replace a1 := keepc hb a1
    replace t0 := keepc hb t0
    replace t1 := keepc hb t1
    replace ld := Nat.lt_of_lt_of_le ld hb.size
    replace la := Nat.lt_of_lt_of_le la hb.size
    replace lt := Nat.lt_of_lt_of_le lt hb.size
    clear hb
    go_wp2_with fail
    have lq : ys.length ≤ 900 := by have := HL.out; omega
    go_region_held3 (fun W => W.cell? ⟨ga, 0, none⟩ = some (.int .i64 e) ∧ W.cell? ⟨ga, 1, none⟩ = some (.int .i64 s) ∧ Below w12.heap.size w12 W)
      (first | assumption | exact ⟨a0, a1, (Below.refl _ _).drew⟩ | (go_split_ands; exact ⟨keepc hb (by assumption), keepc hb (by assumption), on_below (by assumption) hb⟩))
      (first | (go_at_call 22; (with_reducible refine (BK3.out _).mono ?_); rintro e_ w13 ⟨rfl, hb⟩) | (go_at_call 21; (with_reducible refine (rchallenge_any b3 q BI3.out IQ.out mA mC ys c3 C3.out _ lq HI.out ?_).mono ?_); (go_split_ands; exact HM.out.below (by assumption)); rintro e_ w13 ⟨rfl, hb⟩))
    go_split_ands
    clear hb lq
    have hb : Below w12.heap.size w12 w13 := by assumption
    replace HB := Lib.hid (on_below HB.out hb)
    replace HS := Lib.hid (HS.out.on hb)
    replace HM := Lib.hid (HM.out.below hb)
    replace HN := Lib.hid (HN.out.below hb)
    replace d0 := keepc hb d0
    replace d1 := keepc hb d1
    replace a0 := keepc hb a0
    replace a1 := keepc hb a1
    replace t0 := keepc hb t0
    replace t1 := keepc hb t1
    replace ld := Nat.lt_of_lt_of_le ld hb.size
    replace la := Nat.lt_of_lt_of_le la hb.size
    replace lt := Nat.lt_of_lt_of_le lt hb.size
    clear hb
    go_wp2_with fail
    go_ret
    exact ⟨rfl, HB.out⟩
/-! ### The row and the card -/
open Go.ChangeShapes Go.WideShapes Go.ChangeAt Go.Joins

set_option maxRecDepth 100000 in
theorem contract (H : Type) (enc : TypeId × Value → H) (W : World) (base : Nat) (args : Array Value) (ds gs : List (DataW H)) (before : List MemPlace)
    (hval : ∀ (j : Nat) t v, Tryd.f5.params[j]? = some t → args[j]? = some v → Value.okWide Tryd.prog W .any base t v)
    (hW : DataW.Whole enc Tryd.prog Tryd.f5.params.toList Rows.signChallengesSpec.vars false W args.toList ds gs before) (hL : laidMetH Tryd.prog laid3 W) :
    Calls Tryd.prog 5 args W fun e W' => ∃ v, e = .returned v ∧ Rows.signChallengesSpec.post enc Tryd.prog Tryd.f5 false true false false W args v W' := by
  have hW' := hW
  have hold : ∀ q ∈ before, decide (q.block < W.heap.size) = true := fun q hq => by simpa using hW.lt q hq
  obtain ⟨p, q, hA0, hV, rfl, hfz, hnd⟩ := hW
  have hA : DataW.TrodAll enc Tryd.prog W 0 (fun _ => true) true Tryd.f5.params.toList args.toList ds p := hA0
  rw [Tryd.params5] at hA hval
  obtain ⟨v0, vs0, d0, ds0, p0, q0, hargs, rfl, rfl, h0, r0⟩ := trodAll_cons hA
  obtain ⟨v1, vs1, d1, ds1, p1, q1, rfl, rfl, rfl, h1, r1⟩ := trodAll_cons r0
  obtain ⟨v2, vs2, d2, ds2, p2, q2, rfl, rfl, rfl, h2, r2⟩ := trodAll_cons r1
  obtain ⟨v3, vs3, d3, ds3, p3, q3, rfl, rfl, rfl, h3, r3⟩ := trodAll_cons r2
  obtain ⟨v4, vs4, d4, ds4, p4, q4, rfl, rfl, rfl, h4, r4⟩ := trodAll_cons r3
  obtain ⟨v5, vs5, d5, ds5, p5, q5, rfl, rfl, rfl, h5, r5⟩ := trodAll_cons r4
  obtain ⟨rfl, rfl, rfl⟩ := trodAll_nil r5
  obtain rfl : args = #[v0, v1, v2, v3, v4, v5] := Array.toList_inj.1 hargs
  obtain ⟨rfl, rfl⟩ := trodVars_none hV
  obtain ⟨k, rfl, rfl, rfl, wk⟩ := open_int Tryd.underlying34 (hval 0 34 v0 rfl rfl) h0
  obtain ⟨o, rfl, rfl, rfl, wo⟩ := open_int Tryd.underlying34 (hval 1 34 v1 rfl rfl) h1
  obtain ⟨z, rfl, rfl, rfl, wz⟩ := open_int Tryd.underlying34 (hval 2 34 v2 rfl rfl) h2
  obtain ⟨mA, mC, m, rfl, sm, wm, km, shutm⟩ := open_nums Tryd.underlying24 Tryd.underlying3 cellsInt (hval 3 24 v3 rfl rfl) h3
  obtain ⟨nA, nC, n, rfl, sn, wn, kn, shutn⟩ := open_nums Tryd.underlying24 Tryd.underlying3 cellsInt (hval 4 24 v4 rfl rfl) h4
  obtain ⟨dE, dS, rfl, rfl, rfl, wdE, wdS⟩ := open_sig (hval 5 23 v5 rfl rfl) h5
  clear hA0
  refine (law_any k (wf_u64 wk) o (wf_u64 wo) z (wf_u64 wz) mA mC m (fun x hx => wf_i (wm x hx)) km nA nC n (fun x hx => wf_i (wn x hx)) kn dE dS (wf_i wdE) (wf_i wdS) W (st_of hL) sm sn).mono fun e W' ⟨he, bel⟩ => ?_
  subst he
  exact ⟨_, rfl, _, _, _, [], _, [], hW', trodAll_mk1 (shut_bool Tryd.underlying4 _), (trodAll_cons_mk (shut_int Tryd.underlying34 wk) (trodAll_cons_mk (shut_int Tryd.underlying34 wo) (trodAll_cons_mk (shut_int Tryd.underlying34 wz) (trodAll_cons_mk (shutm W' (fun b => decide (b < W.heap.size)) bel (fun q hq => hold q (by simp [hq]))) (trodAll_cons_mk (shutn W' (fun b => decide (b < W.heap.size)) bel (fun q hq => hold q (by simp [hq]))) (trodAll_cons_mk (shut_sig wdE wdS) trodAll_mk0)))))), rfl, bel.frame _, fun h => by cases h⟩

theorem reads (os : Os) {H : Type} (enc : TypeId × Value → H) : ∃ places, DataW.whole enc Tryd.prog ((laidWorld os).forCall (fun _ _ => 0) ⟨#[], #[.int .u64 0, .int .u64 0, .int .u64 0, .slice none 0 0, .slice none 0 0, .agg #[.int .i64 0, .int .i64 0]], []⟩).memory Tryd.f5.params.toList Rows.signChallengesSpec.vars false (#[.int .u64 0, .int .u64 0, .int .u64 0, .slice none 0 0, .slice none 0 0, .agg #[.int .i64 0, .int .i64 0]] : Array Value).toList 8 = some ([.lit (.int .u64 0), .lit (.int .u64 0), .lit (.int .u64 0), .nil, .nil, .agg [.lit (.int .i64 0), .lit (.int .i64 0)]], [], places) :=
  ⟨[], by kernel_rfl⟩

set_option maxRecDepth 100000 in
theorem lifted (os : Os) (started : os.Started) (H : Type) (enc : TypeId × Value → H) (F : Stop.Interp) :
    ReturnsInHanded {} Tryd.checked os 5 .any ((OpenSpec.ofChange Rows.signChallengesSpec).preRow enc Tryd.prog Tryd.f5 Rows.signChallengesRow.domain false Rows.signChallengesRow.laid) (((OpenSpec.ofChange Rows.signChallengesSpec).at F).post enc Tryd.prog Tryd.f5 false true false false) := by
  obtain ⟨places, hx⟩ := reads os enc
  refine returnsInHanded_of_row (C := Tryd.checked) (s := OpenSpec.ofChange Rows.signChallengesSpec) own started (by kernel_rfl) Tryd.func5
    (witness_row_atRef (enc := enc) (C := Tryd.checked) false (laidWorld os) #[.int .u64 0, .int .u64 0, .int .u64 0, .slice none 0 0, .slice none 0 0, .agg #[.int .i64 0, .int .i64 0]] rfl (by kernel_rfl) (by kernel_rfl) (by kernel_rfl)
      (OpenSpec.preRow_of_cond 8 hx (by kernel_rfl) (fun k hk => by cases hk) (by kernel_rfl) (laidWorld_met3 os _))) ?_
  intro W base args ds gs before hval hW _ hcond _ hL hsh _
  exact contract H enc W base args ds gs before hval hW hL

theorem said : Rows.SignChallengesSaid :=
  OpenClaim.holds_of_cond 5 Tryd.f5 rfl rfl rfl rfl rfl rfl rfl ⟨rfl, rfl, rfl, rfl, rfl⟩ rfl rfl rfl rfl rfl (by kernel_rfl) Tryd.func5 (by kernel_rfl)
    (of_decide_eq_true (by kernel_rfl)) (by unfold Func.isWrapper; first | (rw [if_pos (by decide +kernel)]; kernel_rfl) | (rw [if_neg (by decide +kernel)]; exact ⟨rfl, rfl⟩))
    (fun os started H enc _ F => by rw [OpenClaim.pre_eq_preRow]; exact lifted os started H enc F)

theorem plain (f : FuncId) (fn : Func) (hf : Tryd.pinned.checked.prog.funcNamed "barcarole/barcarolelaw06.SignChallenges" = some f) (hfn : Tryd.pinned.checked.prog.funcs[f]? = some fn) :
    false = Tryd.pinned.checked.prog.looks [] ∧ ∀ (j : Nat) t, fn.params[j]? = some t → Tryd.pinned.checked.prog.wantsStandIn t = false := by
  obtain rfl : f = 5 := Option.some.inj ((show Tryd.prog.funcNamed "barcarole/barcarolelaw06.SignChallenges" = some 5 by kernel_rfl).symm.trans hf) |>.symm
  obtain rfl : fn = Tryd.f5 := (Option.some.inj (Tryd.func5.symm.trans hfn)).symm
  refine ⟨by kernel_rfl, fun j t ht => ?_⟩
  rw [Tryd.params5] at ht
  have ht' : t = 24 ∨ t = 23 ∨ t = 34 := by
    have := Array.mem_of_getElem? ht
    simp at this
    first | omega | (rcases this with h | h | h | h | h | h <;> simp [h]) | (rcases this with h | h | h | h | h <;> simp [h]) | (rcases this with h | h | h | h <;> simp [h]) | (rcases this with h | h | h <;> simp [h]) | (rcases this with h | h <;> simp [h])
  rcases ht' with rfl | rfl | rfl
  · exact (show Tryd.prog.wantsStandIn 24 = false by kernel_rfl)
  · exact (show Tryd.prog.wantsStandIn 23 = false by kernel_rfl)
  · exact (show Tryd.prog.wantsStandIn 34 = false by kernel_rfl)

/-- The statement. -/
theorem card : Rows.SignChallengesCardSaid :=
  Claim7.holds_tied_plain_at .later [] _ _ _ _ said (fun _ h => by cases h) (by kernel_rfl) (fun _ h => by cases h) signChallenges_row_tie rfl ⟨rfl, rfl⟩ (by kernel_rfl) rfl plain (by kernel_rfl)
end Go.Proofs.YtiapigoknlaihaaDoor.signChallenges
