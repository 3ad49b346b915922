/-
  P5.2: one byte changed, and the same bytes behind.
-/
import Derived.Test.YtpplpnmammpkpaaDoorDigY
import Derived.Test.YtpplpnmammpkpaaDoorCards
import Derived.Test.YtpplpnmammpkpaaDoorTie
import Derived.Deep.DeepCutAuto
namespace Go.Proofs.YtpplpnmammpkpaaDoor.digestOneByte
open Go.RowKit Go.Sort
open Go.RowKit (Below)
set_option linter.unusedVariables false
set_option linter.unusedSimpArgs false

theorem own_nil (w : World) {base : Nat} (hb : base ≤ w.heap.size) : (w.alloc (.cells #[] 5)).ownsRow base 5 1 (.slice (some ⟨w.heap.size, 0, none⟩) 0 0) 0 [] := own_new w #[] 5 hb (by unfold maxLen; simp)
theorem sum_n (A : Option Addr) (C n : Nat) (xs : List Int) (hn : xs.length = n) (v : Int) (hv : dig xs = v) (w : World) (hl : xs.length ≤ 9223372036854775807) (hs : Sk .u8 w A xs) :
    Calls Tryd.prog 11 #[.slice A n C] w fun e w' => e = .returned (.int .u64 v) ∧ w = w' := by subst hn; exact sum_is A C xs v hv w hl hs
theorem len_le {p : List Int} {n : Nat} (h : p.length ≤ n) (hn : n ≤ 600) : p.length ≤ 9223372036854775807 := by omega
set_option maxRecDepth 100000 in
set_option maxHeartbeats 4000000 in
theorem law_any (pA : Option Addr) (pC : Nat) (p : List Int) (jp : ∀ x ∈ p, U8 x) (kp : p.length ≤ pC ∧ pC ≤ 9223372036854775807) (qA : Option Addr) (qC : Nat) (q : List Int) (jq : ∀ x ∈ q, U8 x) (kq : q.length ≤ qC ∧ qC ≤ 9223372036854775807) (sA : Option Addr) (sC : Nat) (s : List Int) (js : ∀ x ∈ s, U8 x) (ks : s.length ≤ sC ∧ sC ≤ 9223372036854775807) (z : Int) (iz : I64 z) (y : Int) (iy : U8 y) (w : World) (hs : St w) (sp : Sk .u8 w pA p) (sq : Sk .u8 w qA q) (ss : Sk .u8 w sA s) :
    Calls Tryd.prog 4 #[.slice pA p.length pC, .slice qA q.length qC, .slice sA s.length sC, .int .i64 z, .int .u8 y] w fun e w' => e = .returned (.bool true) ∧ Below w.heap.size w w' := by
  have HS := Lib.hid hs
  clear hs
  have Hp := Lib.hid sp
  clear sp
  have Jp := Lib.hid jp
  clear jp
  have Kp := Lib.hid kp
  clear kp
  have Hq := Lib.hid sq
  clear sq
  have Jq := Lib.hid jq
  clear jq
  have Kq := Lib.hid kq
  clear kq
  have Hs := Lib.hid ss
  clear ss
  have Js := Lib.hid js
  clear js
  have Ks := Lib.hid ks
  clear ks
  have Iz := Lib.hid iz
  clear iz
  have Iy := Lib.hid iy
  clear iy
  by_cases ep : 300 < p.length
  · have dp : decide (300 < (p.length : Int)) = true := by rw [decide_eq_true_eq]; omega
    have HB := Lib.hid (Below.refl w.heap.size w)
    go_enter Tryd.func4, Tryd.ntmps4
    go_wp2_with fail
    refine (head_any _ HS.out).mono ?_
    rintro e w' ⟨rfl, hb⟩
    replace HB := Lib.hid (on_below HB.out hb)
    replace HS := Lib.hid (HS.out.on hb)
    clear hb
    go_wp2_with fail
    go_ret
    exact ⟨rfl, HB.out⟩
  have dp : decide (300 < (p.length : Int)) = false := by rw [decide_eq_false_iff_not]; omega
  have lp : p.length ≤ 300 := by omega
  clear ep
  by_cases eq : 300 < q.length
  · have dq : decide (300 < (q.length : Int)) = true := by rw [decide_eq_true_eq]; omega
    have HB := Lib.hid (Below.refl w.heap.size w)
    go_enter Tryd.func4, Tryd.ntmps4
    go_wp2_with fail
    refine (head_any _ HS.out).mono ?_
    rintro e w' ⟨rfl, hb⟩
    replace HB := Lib.hid (on_below HB.out hb)
    replace HS := Lib.hid (HS.out.on hb)
    clear hb
    go_wp2_with fail
    go_ret
    exact ⟨rfl, HB.out⟩
  have dq : decide (300 < (q.length : Int)) = false := by rw [decide_eq_false_iff_not]; omega
  have lq : q.length ≤ 300 := by omega
  clear eq
  by_cases es : 300 < s.length
  · have ds : decide (300 < (s.length : Int)) = true := by rw [decide_eq_true_eq]; omega
    have HB := Lib.hid (Below.refl w.heap.size w)
    go_enter Tryd.func4, Tryd.ntmps4
    go_wp2_with fail
    refine (head_any _ HS.out).mono ?_
    rintro e w' ⟨rfl, hb⟩
    replace HB := Lib.hid (on_below HB.out hb)
    replace HS := Lib.hid (HS.out.on hb)
    clear hb
    go_wp2_with fail
    go_ret
    exact ⟨rfl, HB.out⟩
  have ds : decide (300 < (s.length : Int)) = false := by rw [decide_eq_false_iff_not]; omega
  have ls : s.length ≤ 300 := by omega
  clear es
  have l1 : (p ++ s).length ≤ 600 := by simp; omega
  have l2 : (q ++ s).length ≤ 600 := by simp; omega
  have hX := dig_behind (xs := p) (ys := q) (zs := s) Js.out
  obtain ⟨X, hX0⟩ : ∃ X, dig (p ++ s) = X := ⟨_, rfl⟩
  obtain ⟨Y, hY0⟩ : ∃ Y, dig (q ++ s) = Y := ⟨_, rfl⟩
  obtain ⟨P, hP0⟩ : ∃ P, dig p = P := ⟨_, rfl⟩
  obtain ⟨Q, hQ0⟩ : ∃ Q, dig q = Q := ⟨_, rfl⟩
  rw [hX0, hY0, hP0, hQ0] at hX
  obtain ⟨bb, e1, e2⟩ : ∃ bb, (X == Y) = bb ∧ (P == Q) = bb := ⟨_, rfl, by rw [Bool.eq_iff_iff, beq_iff_eq, beq_iff_eq]; exact hX.symm⟩
  clear hX
  have HX0 := Lib.hid hX0
  clear hX0
  have HY0 := Lib.hid hY0
  clear hY0
  have HP0 := Lib.hid hP0
  clear hP0
  have HQ0 := Lib.hid hQ0
  clear hQ0
  obtain ⟨z1, z2⟩ := Iz.out
  obtain ⟨i0, hi0, hz0, hz1, hz2⟩ := info_parts u8_info
  have HB := Lib.hid (Below.refl w.heap.size w)
  go_enter Tryd.func4, Tryd.ntmps4
  go_wp2_with fail
  refine (head_any _ HS.out).mono ?_
  rintro e w' ⟨rfl, hb⟩
  replace HB := Lib.hid (on_below HB.out hb)
  replace HS := Lib.hid (HS.out.on hb)
  clear hb
  have HB0 := HB.out
  clear HB
  go_wp2_with (first
    | (at_builtin; refine wpList_append_sk _ rfl (.tmp 31) (.tmp 32) 22 rfl w.heap.size 5 i0 .u8 1 Tryd.underlying22 hi0 hz0 hz1 hz2 _ 0 [] rfl (own_nil w' HB0.size) pA pC p rfl (Hp.out.below (HB0.alloc HB0.size (.cells #[] 5))) (by unfold maxLen; omega) (by omega) (HB0.alloc HB0.size (.cells #[] 5)).size ?_; intro v1 w1 own1 gr1 _; have b1 := app_below (HB0.alloc HB0.size (.cells #[] 5)) (HB0.alloc HB0.size (.cells #[] 5)).size (own_nil w' HB0.size) (Nat.le_refl _) gr1)
    | (at_builtin; refine wpList_append_sk _ rfl (.tmp 33) (.tmp 34) 22 rfl w.heap.size 5 i0 .u8 1 Tryd.underlying22 hi0 hz0 hz1 hz2 _ (0 + p.length) ([] ++ p.map (Value.int .u8)) rfl own1 sA sC s rfl (Hs.out.below b1) (by unfold maxLen; omega) (by omega) (b1).size ?_; intro v2 w2 own2 gr2 _; have b2 := app_below (b1) (b1).size own1 (Nat.le_refl _) gr2; obtain ⟨xA, xC, rfl, _, _, hx, _⟩ := own_sk (xs := p ++ s) (by simpa using own2))
    | (at_builtin; refine wpList_append_sk _ rfl (.tmp 36) (.tmp 37) 22 rfl w2.heap.size 5 i0 .u8 1 Tryd.underlying22 hi0 hz0 hz1 hz2 _ 0 [] rfl (own_nil w2 (Nat.le_refl _)) qA qC q rfl (Hq.out.below (b2.alloc b2.size (.cells #[] 5))) (by unfold maxLen; omega) (by omega) ((Below.refl w2.heap.size w2).alloc (Nat.le_refl _) (.cells #[] 5)).size ?_; intro v3 w3 own3 gr3 _; have b3 := app_below ((Below.refl w2.heap.size w2).alloc (Nat.le_refl _) (.cells #[] 5)) ((Below.refl w2.heap.size w2).alloc (Nat.le_refl _) (.cells #[] 5)).size (own_nil w2 (Nat.le_refl _)) (Nat.le_refl _) gr3)
    | (at_builtin; refine wpList_append_sk _ rfl (.tmp 38) (.tmp 39) 22 rfl w2.heap.size 5 i0 .u8 1 Tryd.underlying22 hi0 hz0 hz1 hz2 _ (0 + q.length) ([] ++ q.map (Value.int .u8)) rfl own3 sA sC s rfl (Hs.out.below (on_below b2 b3)) (by unfold maxLen; omega) (by omega) (b3).size ?_; intro v4 w4 own4 gr4 _; have b4 := app_below (b3) (b3).size own3 (Nat.le_refl _) gr4; obtain ⟨yA, yC, rfl, _, _, hy, _⟩ := own_sk (xs := q ++ s) (by simpa using own4)))
  have HB := Lib.hid (b2.trans (b4.mono b2.size))
  have Hx := Lib.hid (hx.below b4)
  have Hy := Lib.hid hy
  clear hx hy own1 own2 own3 own4 gr1 gr2 gr3 gr4 b1 b2 b3 b4 HB0
  refine (sum_n xA xC (p.length + s.length) (p ++ s) (by simp) X HX0.out _ (len_le l1 (by omega)) Hx.out).mono ?_
  rintro e w' ⟨rfl, rfl⟩
  go_wp2_with fail
  refine (sum_n yA yC (q.length + s.length) (q ++ s) (by simp) Y HY0.out _ (len_le l2 (by omega)) Hy.out).mono ?_
  rintro e w' ⟨rfl, rfl⟩
  go_wp2_with fail
  refine (sum_is pA pC p P HP0.out _ (len_le lp (by omega)) (Hp.out.below HB.out)).mono ?_
  rintro e w' ⟨rfl, rfl⟩
  go_wp2_with fail
  refine (sum_is qA qC q Q HQ0.out _ (len_le lq (by omega)) (Hq.out.below HB.out)).mono ?_
  rintro e w' ⟨rfl, rfl⟩
  clear Hx Hy
  by_cases hp0 : p.length = 0
  · have hp1 : ((p.length : Int) == 0) = true := by rw [beq_iff_eq]; omega
    clear hp0
    go_wp2_with fail
    go_ret
    exact ⟨rfl, HB.out⟩
  have hp1 : ((p.length : Int) == 0) = false := by rw [beq_eq_false_iff_ne]; omega
  by_cases hy0 : y = 0
  · have hy1 : (y == 0) = true := by rw [beq_iff_eq]; exact hy0
    clear hy0 hp0
    go_wp2_with fail
    go_ret
    exact ⟨rfl, HB.out⟩
  have hy1 : (y == 0) = false := by rw [beq_eq_false_iff_ne]; exact hy0
  have hpos : 0 < p.length := by omega
  obtain ⟨j, ej, hj⟩ := ix_ex z p.length hpos (by omega)
  obtain ⟨n1, n2⟩ := xor_byte (Jp.out _ (getD_mem hj)) Iy.out hy0
  have HN := Lib.hid (dig_set hj Jp.out n1 n2)
  clear n1 n2 hy0 hp0
  obtain ⟨x, hx⟩ : ∃ x, gd p j = x := ⟨_, rfl⟩
  rw [hx] at HN
  have Hgx := Lib.hid hx
  clear hx
  obtain ⟨D, hD⟩ : ∃ D, dig (p.set j (bits .xor .u8 x y)) = D := ⟨_, rfl⟩
  rw [hD, HP0.out] at HN
  have HD0 := Lib.hid hD
  clear hD
  have hne : (D != P) = true := by simpa using HN.out
  have hj2 : (j : Int) < (p.length : Int) := by omega
  go_wp2_with (at_builtin; refine wpList_append_sk _ rfl (.tmp 63) (.tmp 64) 22 rfl w.heap.size 5 i0 .u8 1 Tryd.underlying22 hi0 hz0 hz1 hz2 _ 0 [] rfl (own_nil w4 HB.out.size) pA pC p rfl (Hp.out.below (HB.out.alloc HB.out.size (.cells #[] 5))) (by unfold maxLen; omega) (by omega) (HB.out.alloc HB.out.size (.cells #[] 5)).size ?_; intro v5 w5 own5 gr5 _; have b5 := app_below (HB.out.alloc HB.out.size (.cells #[] 5)) (HB.out.alloc HB.out.size (.cells #[] 5)).size (own_nil w4 HB.out.size) (Nat.le_refl _) gr5; obtain ⟨g, gC, rfl, hg1, hg2, hsk, hfz⟩ := own_row (xs := p) (by simpa using own5) hpos; have hcell : w5.cell? ⟨g, j, none⟩ = some (.int .u8 x) := (by have h := sk_here hsk hj; rw [Nat.zero_add, Hgx.out] at h; exact h); have hfr := hfz j; have Hsk := Lib.hid hsk; have Hg1 := Lib.hid hg1; have B5 := Lib.hid b5; clear hsk hfz hg1 own5 gr5 b5)
  refine (sum_n (some ⟨g, 0, none⟩) gC p.length (p.set j (bits .xor .u8 x y)) (by simp) D HD0.out _ (by simp; omega) (sk_set Hsk.out hj)).mono ?_
  rintro e w' ⟨rfl, rfl⟩
  go_wp2_with fail
  refine (sum_is pA pC p P HP0.out _ (len_le lp (by omega)) (Hp.out.below (B5.out.setCell Hg1.out _))).mono ?_
  rintro e w' ⟨rfl, rfl⟩
  go_wp2_with fail
  go_ret
  exact ⟨rfl, B5.out.setCell Hg1.out _⟩
/-! ### The row and the card -/
open Go.ChangeShapes Go.WideShapes Go.ChangeAt Go.Joins

set_option maxRecDepth 100000 in
theorem contract (H : Type) (enc : TypeId × Value → H) (W : World) (base : Nat) (args : Array Value) (ds gs : List (DataW H)) (before : List MemPlace)
    (hval : ∀ (j : Nat) t v, Tryd.f4.params[j]? = some t → args[j]? = some v → Value.okWide Tryd.prog W .any base t v)
    (hW : DataW.Whole enc Tryd.prog Tryd.f4.params.toList Rows.digestOneByteSpec.vars false W args.toList ds gs before) (hL : laidMetH Tryd.prog laid3 W) :
    Calls Tryd.prog 4 args W fun e W' => ∃ v, e = .returned v ∧ Rows.digestOneByteSpec.post enc Tryd.prog Tryd.f4 false true false false W args v W' := by
  have hW' := hW
  have hold : ∀ q ∈ before, decide (q.block < W.heap.size) = true := fun q hq => by simpa using hW.lt q hq
  obtain ⟨p, q, hA0, hV, rfl, hfz, hnd⟩ := hW
  have hA : DataW.TrodAll enc Tryd.prog W 0 (fun _ => true) true Tryd.f4.params.toList args.toList ds p := hA0
  rw [Tryd.params4] at hA hval
  obtain ⟨v0, vs0, d0, ds0, p0, q0, hargs, rfl, rfl, h0, r0⟩ := trodAll_cons hA
  obtain ⟨v1, vs1, d1, ds1, p1, q1, rfl, rfl, rfl, h1, r1⟩ := trodAll_cons r0
  obtain ⟨v2, vs2, d2, ds2, p2, q2, rfl, rfl, rfl, h2, r2⟩ := trodAll_cons r1
  obtain ⟨v3, vs3, d3, ds3, p3, q3, rfl, rfl, rfl, h3, r3⟩ := trodAll_cons r2
  obtain ⟨v4, vs4, d4, ds4, p4, q4, rfl, rfl, rfl, h4, r4⟩ := trodAll_cons r3
  obtain ⟨rfl, rfl, rfl⟩ := trodAll_nil r4
  obtain rfl : args = #[v0, v1, v2, v3, v4] := Array.toList_inj.1 hargs
  obtain ⟨rfl, rfl⟩ := trodVars_none hV
  obtain ⟨pA, pC, p, rfl, sp, wp, kp, shutp⟩ := open_nums Tryd.underlying22 Tryd.underlying5 cellsU8 (hval 0 22 v0 rfl rfl) h0
  obtain ⟨qA, qC, q, rfl, sq, wq, kq, shutq⟩ := open_nums Tryd.underlying22 Tryd.underlying5 cellsU8 (hval 1 22 v1 rfl rfl) h1
  obtain ⟨sA, sC, s, rfl, ss, ws, ks, shuts⟩ := open_nums Tryd.underlying22 Tryd.underlying5 cellsU8 (hval 2 22 v2 rfl rfl) h2
  obtain ⟨z, rfl, rfl, rfl, wz⟩ := open_int Tryd.underlying3 (hval 3 3 v3 rfl rfl) h3
  obtain ⟨y, rfl, rfl, rfl, wy⟩ := open_int Tryd.underlying5 (hval 4 5 v4 rfl rfl) h4
  clear hA0
  refine (law_any pA pC p (fun x hx => wf_u8 (wp x hx)) kp qA qC q (fun x hx => wf_u8 (wq x hx)) kq sA sC s (fun x hx => wf_u8 (ws x hx)) ks z (wf_i wz) y (wf_u8 wy) W (st_of hL) sp sq ss).mono fun e W' ⟨he, bel⟩ => ?_
  subst he
  exact ⟨_, rfl, _, _, _, [], _, [], hW', trodAll_mk1 (shut_bool Tryd.underlying4 _), (trodAll_cons_mk (shutp W' (fun b => decide (b < W.heap.size)) bel (fun q hq => hold q (by simp [hq]))) (trodAll_cons_mk (shutq W' (fun b => decide (b < W.heap.size)) bel (fun q hq => hold q (by simp [hq]))) (trodAll_cons_mk (shuts W' (fun b => decide (b < W.heap.size)) bel (fun q hq => hold q (by simp [hq]))) (trodAll_cons_mk (shut_int Tryd.underlying3 wz) (trodAll_cons_mk (shut_int Tryd.underlying5 wy) trodAll_mk0))))), rfl, bel.frame _, fun h => by cases h⟩

theorem reads (os : Os) {H : Type} (enc : TypeId × Value → H) : ∃ places, DataW.whole enc Tryd.prog ((laidWorld os).forCall (fun _ _ => 0) ⟨#[], #[.slice none 0 0, .slice none 0 0, .slice none 0 0, .int .i64 0, .int .u8 0], []⟩).memory Tryd.f4.params.toList Rows.digestOneByteSpec.vars false (#[.slice none 0 0, .slice none 0 0, .slice none 0 0, .int .i64 0, .int .u8 0] : Array Value).toList 8 = some ([.nil, .nil, .nil, .lit (.int .i64 0), .lit (.int .u8 0)], [], places) :=
  ⟨[], by kernel_rfl⟩

set_option maxRecDepth 100000 in
theorem lifted (os : Os) (started : os.Started) (H : Type) (enc : TypeId × Value → H) (F : Stop.Interp) :
    ReturnsInHanded {} Tryd.checked os 4 .any ((OpenSpec.ofChange Rows.digestOneByteSpec).preRow enc Tryd.prog Tryd.f4 Rows.digestOneByteRow.domain false Rows.digestOneByteRow.laid) (((OpenSpec.ofChange Rows.digestOneByteSpec).at F).post enc Tryd.prog Tryd.f4 false true false false) := by
  obtain ⟨places, hx⟩ := reads os enc
  refine returnsInHanded_of_row (C := Tryd.checked) (s := OpenSpec.ofChange Rows.digestOneByteSpec) own started (by kernel_rfl) Tryd.func4
    (witness_row_atRef (enc := enc) (C := Tryd.checked) false (laidWorld os) #[.slice none 0 0, .slice none 0 0, .slice none 0 0, .int .i64 0, .int .u8 0] rfl (by kernel_rfl) (by kernel_rfl) (by kernel_rfl)
      (OpenSpec.preRow_of_cond 8 hx (by kernel_rfl) (fun k hk => by cases hk) (by kernel_rfl) (laidWorld_met3 os _))) ?_
  intro W base args ds gs before hval hW _ hcond _ hL hsh _
  exact contract H enc W base args ds gs before hval hW hL

theorem said : Rows.DigestOneByteSaid :=
  OpenClaim.holds_of_cond 4 Tryd.f4 rfl rfl rfl rfl rfl rfl rfl ⟨rfl, rfl, rfl, rfl, rfl⟩ rfl rfl rfl rfl rfl (by kernel_rfl) Tryd.func4 (by kernel_rfl)
    (of_decide_eq_true (by kernel_rfl)) (by unfold Func.isWrapper; first | (rw [if_pos (by decide +kernel)]; kernel_rfl) | (rw [if_neg (by decide +kernel)]; exact ⟨rfl, rfl⟩))
    (fun os started H enc _ F => by rw [OpenClaim.pre_eq_preRow]; exact lifted os started H enc F)

theorem plain (f : FuncId) (fn : Func) (hf : Tryd.pinned.checked.prog.funcNamed "barcarole/barcarolelaw05.DigestOneByte" = some f) (hfn : Tryd.pinned.checked.prog.funcs[f]? = some fn) :
    false = Tryd.pinned.checked.prog.looks [] ∧ ∀ (j : Nat) t, fn.params[j]? = some t → Tryd.pinned.checked.prog.wantsStandIn t = false := by
  obtain rfl : f = 4 := Option.some.inj ((show Tryd.prog.funcNamed "barcarole/barcarolelaw05.DigestOneByte" = some 4 by kernel_rfl).symm.trans hf) |>.symm
  obtain rfl : fn = Tryd.f4 := (Option.some.inj (Tryd.func4.symm.trans hfn)).symm
  refine ⟨by kernel_rfl, fun j t ht => ?_⟩
  rw [Tryd.params4] at ht
  have ht' : t = 22 ∨ t = 3 ∨ t = 5 := by
    have := Array.mem_of_getElem? ht
    simp at this
    first | omega | (rcases this with h | h | h | h | h | h | h | h <;> simp [h]) | (rcases this with h | h | h | h | h | h | h <;> simp [h]) | (rcases this with h | h | h | h | h | h <;> simp [h]) | (rcases this with h | h | h | h | h <;> simp [h]) | (rcases this with h | h | h | h <;> simp [h]) | (rcases this with h | h | h <;> simp [h]) | (rcases this with h | h <;> simp [h])
  rcases ht' with rfl | rfl | rfl
  · exact (show Tryd.prog.wantsStandIn 22 = false by kernel_rfl)
  · exact (show Tryd.prog.wantsStandIn 3 = false by kernel_rfl)
  · exact (show Tryd.prog.wantsStandIn 5 = false by kernel_rfl)

/-- The statement. -/
theorem card : Rows.DigestOneByteCardSaid :=
  Claim7.holds_tied_plain_at .later [] _ _ _ _ said (fun _ h => by cases h) (by kernel_rfl) (fun _ h => by cases h) digestOneByte_row_tie rfl ⟨rfl, rfl⟩ (by kernel_rfl) rfl plain (by kernel_rfl)
end Go.Proofs.YtpplpnmammpkpaaDoor.digestOneByte
