/-
  P5.7: a path that is too long or too short is not accepted, nor an index that the tree does not have.
-/
import Derived.Test.YtpplpnmammpkpaaDoorDigY
import Derived.Test.YtpplpnmammpkpaaDoorCards
import Derived.Test.YtpplpnmammpkpaaDoorTie
import Derived.Deep.DeepCutAuto
namespace Go.Proofs.YtpplpnmammpkpaaDoor.digestShape
open Go.RowKit Go.Sort
open Go.RowKit (Below)
set_option linter.unusedVariables false
set_option linter.unusedSimpArgs false

theorem chkB_len {r x : Int} {j n : Nat} {p q : List Int} (h : chkB r x j n p = true) (hl : q.length ≠ p.length) : chkB r x j n q = false := by
  unfold chkB at h ⊢
  split at h
  · rename_i h0
    rw [if_pos h0]
    exact chkW_long h hl
  · cases h
/-- What the law asks of Check. -/
structure SF (r x m : Int) (j n : Nat) (zs : List Int) : Prop where
  c1 : chkB r x j n (zs ++ [m]) = false
  c2 : chkB r x n n zs = false
  c3 : chkB r x (-1 - (j : Int)) n zs = false
  c4 : chkB r x j 0 zs = false
  c5 : chkB r x j (1024 + (n : Int)) zs = false
  c6 : 0 < zs.length → chkB r x j n (zs.take (zs.length - 1)) = false
  c7 : 0 < zs.length → chkB r x j n [] = false
theorem sf {r x : Int} {j n : Nat} {zs : List Int} (m : Int) (h : chkB r x j n zs = true) (hj : j < n) : SF r x m j n zs where
  c1 := chkB_len h (by simp)
  c2 := by unfold chkB; rw [if_neg (by omega)]
  c3 := by unfold chkB; rw [if_neg (by omega)]
  c4 := by unfold chkB; rw [if_neg (by omega)]
  c5 := by unfold chkB; rw [if_neg (by omega)]
  c6 := fun hp => chkB_len h (by rw [List.length_take]; omega)
  c7 := fun hp => chkB_len h (by simp; omega)
theorem check_n (root leaf i n : Int) (A : Option Addr) (C k : Nat) (path : List Int) (hk : path.length = k) (w : World) (b : Bool) (hR : chkB root leaf i n path = b) (hlf : U64 leaf) (hl : path.length ≤ 9223372036854775807) (hC : path.length ≤ C) (hu : ∀ x ∈ path, U64 x) (h : Sk .u64 w A path) :
    Calls Tryd.prog 20 #[.int .u64 root, .int .u64 leaf, .int .i64 i, .int .i64 n, .slice A k C] w fun e w' => e = .returned (.bool b) ∧ Below w.heap.size w w' := by
  subst hk; exact check_any root leaf i n A C path w b hR hlf hl hC hu h
theorem own_nil64 (w : World) {base : Nat} (hb : base ≤ w.heap.size) : (w.alloc (.cells #[] 25)).ownsRow base 25 1 (.slice (some ⟨w.heap.size, 0, none⟩) 0 0) 0 [] := own_new w #[] 25 hb (by unfold maxLen; simp)
theorem keepc {w w' : World} {a : Addr} {v : Value} (hb : Below w.heap.size w w') (hc : w.cell? a = some v) : w'.cell? a = some v := by rw [hb.cell (block_lt hc)]; exact hc
theorem u_snoc {zs : List Int} {m : Int} (h : ∀ x ∈ zs, U64 x) (hm : U64 m) : ∀ x ∈ zs ++ [m], U64 x := by
  intro x hx
  rcases List.mem_append.1 hx with hx | hx
  · exact h x hx
  · simp at hx; subst hx; exact hm
set_option maxRecDepth 100000 in
set_option maxHeartbeats 4000000 in
theorem law_any (lA : Option Addr) (lC : Nat) (l : List Int) (jl : ∀ x ∈ l, U64 x) (kl : l.length ≤ lC ∧ lC ≤ 9223372036854775807) (z : Int) (iz : I64 z) (m : Int) (im : U64 m) (w : World) (hs : St w) (sl : Sk .u64 w lA l) :
    Calls Tryd.prog 9 #[.slice lA l.length lC, .int .i64 z, .int .u64 m] w fun e w' => e = .returned (.bool true) ∧ Below w.heap.size w w' := by
  have HS := Lib.hid hs
  clear hs
  have Hl := Lib.hid sl
  clear sl
  have Jl := Lib.hid jl
  clear jl
  have Kl := Lib.hid kl
  clear kl
  have Iz := Lib.hid iz
  clear iz
  have Im := Lib.hid im
  clear im
  by_cases h0 : l.length = 0
  · obtain rfl : l = [] := List.eq_nil_of_length_eq_zero h0
    clear h0
    have HB := Lib.hid (Below.refl w.heap.size w)
    go_enter Tryd.func9, Tryd.ntmps9
    go_wp2_with fail
    refine (head_any _ HS.out).mono ?_
    rintro e w' ⟨rfl, hb⟩
    replace HB := Lib.hid (on_below HB.out hb)
    replace HS := Lib.hid (HS.out.on hb)
    replace Hl := Lib.hid (Hl.out.below hb)
    clear hb
    go_wp2_with fail
    go_ret
    exact ⟨rfl, HB.out⟩
  have he : ((l.length : Int) == 0) = false := by rw [beq_eq_false_iff_ne]; omega
  by_cases h1 : 1024 < l.length
  · have hd : decide (1024 < (l.length : Int)) = true := by rw [decide_eq_true_eq]; omega
    clear h0
    have HB := Lib.hid (Below.refl w.heap.size w)
    go_enter Tryd.func9, Tryd.ntmps9
    go_wp2_with fail
    refine (head_any _ HS.out).mono ?_
    rintro e w' ⟨rfl, hb⟩
    replace HB := Lib.hid (on_below HB.out hb)
    replace HS := Lib.hid (HS.out.on hb)
    replace Hl := Lib.hid (Hl.out.below hb)
    clear hb
    go_wp2_with fail
    go_ret
    exact ⟨rfl, HB.out⟩
  have hd : decide (1024 < (l.length : Int)) = false := by rw [decide_eq_false_iff_not]; omega
  have hpos : 0 < l.length := by omega
  have hfew : l.length ≤ 1024 := by omega
  clear h0 h1
  obtain ⟨z1, z2⟩ := Iz.out
  obtain ⟨i0, hi0, hz0, hz1, hz2⟩ := info_parts u64_info
  have HB := Lib.hid (Below.refl w.heap.size w)
  go_enter Tryd.func9, Tryd.ntmps9
  go_wp2_with fail
  refine (head_any _ HS.out).mono ?_
  rintro e w' ⟨rfl, hb⟩
  replace HB := Lib.hid (on_below HB.out hb)
  replace HS := Lib.hid (HS.out.on hb)
  replace Hl := Lib.hid (Hl.out.below hb)
  clear hb
  go_wp2_with fail
  obtain ⟨j, ej, hj⟩ := ix_ex z l.length hpos (by omega)
  rw [ej]
  clear ej
  obtain ⟨r, zs, hpf⟩ := pf hpos hfew hj
  have Hp := Lib.hid hpf
  clear hpf
  have ht := Hp.out.ten
  refine (root_is _ _ l r 0 Hp.out.root Hp.out.e0 _ (le_max Kl.out) Jl.out Hl.out).mono ?_
  rintro e w' ⟨rfl, hb⟩
  replace HB := Lib.hid (on_below HB.out hb)
  replace HS := Lib.hid (HS.out.on hb)
  replace Hl := Lib.hid (Hl.out.below hb)
  clear hb
  go_wp2_with fail
  refine (path_is _ _ l _ zs 0 Hp.out.path Hp.out.e1 _ (le_max Kl.out) Jl.out Hl.out).mono ?_
  rintro e w' ⟨App, Cpp, rfl, qa, qb, ⟨hl, _⟩, hb⟩
  replace HB := Lib.hid (on_below HB.out hb)
  replace HS := Lib.hid (HS.out.on hb)
  replace Hl := Lib.hid (Hl.out.below hb)
  have Hpp := Lib.hid hl
  have Qpp := Lib.hid (And.intro qa qb)
  clear hb hl qa qb
  have HU := Lib.hid (gd_u Jl.out j)
  have HF := Lib.hid (sf m Hp.out.chk hj)
  have HPu := Lib.hid Hp.out.u
  clear Hp
  have hj2 : (j : Int) < (l.length : Int) := by omega
  obtain ⟨b, o, rfl, hc0⟩ := Hl.out j hj
  have Hc := Lib.hid hc0
  clear hc0
  generalize gd l j = x at *
  have HB0 := HB.out
  clear HB
  go_wp2_with (first
    | (at_builtin; refine wpList_append_sk _ rfl (.tmp 51) (.tmp 52) 24 rfl w'.heap.size 25 i0 .u64 8 Tryd.underlying24 hi0 hz0 hz1 hz2 _ 0 [] rfl (own_nil64 w' (Nat.le_refl _)) App Cpp zs rfl (Hpp.out.below ((Below.refl _ _).alloc (Nat.le_refl _) (.cells #[] 25))) (by unfold maxLen; omega) (by omega) (((Below.refl w'.heap.size w').alloc (Nat.le_refl _) (.cells #[] 25)).size) ?_; intro v1 w1 own1 gr1 _; have b1 := app_below ((Below.refl w'.heap.size w').alloc (Nat.le_refl _) (.cells #[] 25)) (((Below.refl w'.heap.size w').alloc (Nat.le_refl _) (.cells #[] 25)).size) (own_nil64 w' (Nat.le_refl _)) (Nat.le_refl _) gr1)
    | (at_builtin; refine wpList_append_own _ rfl (.tmp 53) (.tmp 55) 24 rfl w'.heap.size 25 i0 (.int .u64 0) 1 8 Tryd.underlying24 hi0 hz0 hz1 hz2 rfl (by decide) _ _ _ rfl (own1.alloc _) ⟨w1.heap.size, 0, none⟩ 1 1 [.int .u64 m] rfl rfl (new_k _ _ _) one_k (by unfold maxLen; omega) (by omega) (by have := b1.size; simp <;> omega) ?_; intro v2 w2 own2 gr2 _; have b2 := app_below (b1.alloc b1.size (.cells #[.int .u64 m] 25)) ((b1.alloc b1.size (.cells #[.int .u64 m] 25)).size) (own1.alloc _) (Nat.le_refl _) gr2; obtain ⟨LA, LC, rfl, lq, _, hL, _⟩ := own_sk (xs := zs ++ [m]) (by simpa using own2); have hc := cell_on b2 (block_lt Hc.out) Hc.out))
  have HB := Lib.hid (HB0.trans (b2.mono HB0.size))
  replace Hpp := Lib.hid (Hpp.out.below b2)
  have HL := Lib.hid hL
  have Hlq := Lib.hid lq
  have hln : (zs ++ [m]).length = zs.length + 1 := by simp
  clear hL lq own1 own2 gr1 gr2 b1 b2 HB0 Hc Hl
  refine (check_n r x j l.length LA LC (zs.length + 1) (zs ++ [m]) hln _ false HF.out.c1 HU.out (by omega) Hlq.out (u_snoc HPu.out Im.out) HL.out).mono ?_
  rintro e w' ⟨rfl, hb⟩
  replace hc := keepc hb hc
  replace HB := Lib.hid (on_below HB.out hb)
  replace Hpp := Lib.hid (Hpp.out.below hb)
  clear hb
  go_wp2_with fail
  clear HL Hlq hln
  refine (check_any r x l.length l.length App Cpp zs _ false HF.out.c2 HU.out (by omega) Qpp.out.1 HPu.out Hpp.out).mono ?_
  rintro e w' ⟨rfl, hb⟩
  replace hc := keepc hb hc
  replace HB := Lib.hid (on_below HB.out hb)
  replace Hpp := Lib.hid (Hpp.out.below hb)
  clear hb
  go_wp2_with fail
  refine (check_any r x _ l.length App Cpp zs _ false HF.out.c3 HU.out (by omega) Qpp.out.1 HPu.out Hpp.out).mono ?_
  rintro e w' ⟨rfl, hb⟩
  replace hc := keepc hb hc
  replace HB := Lib.hid (on_below HB.out hb)
  replace Hpp := Lib.hid (Hpp.out.below hb)
  clear hb
  go_wp2_with fail
  refine (check_any r x j 0 App Cpp zs _ false HF.out.c4 HU.out (by omega) Qpp.out.1 HPu.out Hpp.out).mono ?_
  rintro e w' ⟨rfl, hb⟩
  replace hc := keepc hb hc
  replace HB := Lib.hid (on_below HB.out hb)
  replace Hpp := Lib.hid (Hpp.out.below hb)
  clear hb
  go_wp2_with fail
  refine (check_any r x j _ App Cpp zs _ false HF.out.c5 HU.out (by omega) Qpp.out.1 HPu.out Hpp.out).mono ?_
  rintro e w' ⟨rfl, hb⟩
  replace hc := keepc hb hc
  replace HB := Lib.hid (on_below HB.out hb)
  replace Hpp := Lib.hid (Hpp.out.below hb)
  clear hb
  by_cases hzs : 0 < zs.length
  · have hzi : (0 : Int) < (zs.length : Int) := by omega
    have hzi2 : (1 : Int) ≤ (zs.length : Int) := by omega
    have hle : (zs.take (zs.length - 1)).length = zs.length - 1 := by simp
    have HC6 := Lib.hid (fun W (hB : Below w'.heap.size w' W) => check_n r x j l.length App Cpp (zs.length - 1) (zs.take (zs.length - 1)) hle W false (HF.out.c6 hzs) HU.out (by rw [hle]; omega) (by rw [hle]; have := Qpp.out.1; omega) (fun y hy => HPu.out y (List.mem_of_mem_take hy)) ((Hpp.out.below hB).take _))
    have HC7 := Lib.hid (fun W => check_n r x j l.length none 0 0 [] rfl W false (HF.out.c7 hzs) HU.out (by simp) (by simp) (by simp) (Sk.nil _ _ _))
    have ib : (0 : Int) ≤ (zs.length : Int) - 1 := by omega
    have ic : (zs.length : Int) - 1 ≤ (Cpp : Int) := by have := Qpp.out.1; omega
    have id' : ((zs.length : Int) - 1).toNat = zs.length - 1 := by omega
    have ia : IntKind.i64.wrap ((zs.length : Int) - 1) = (zs.length : Int) - 1 := IntWalk.i64_in _ ⟨by omega, by omega⟩
    clear hle hpos hfew z1 z2 hj ht he hd hzs
    go_wp2_with fail
    go_region_held3 (fun W => W.cell? ⟨b, o + j, none⟩ = some (.int .u64 x) ∧ Below w'.heap.size w' W)
      (first | exact ⟨hc, (Below.refl _ _).drew⟩ | (go_split_ands; exact ⟨keepc hb (by with_reducible assumption), on_below (by with_reducible assumption) hb⟩))
      (first
        | (go_at_call 20; (with_reducible refine (HC6.out _ ?_).mono ?_); (first | exact (Below.refl _ _).drew | (go_split_ands; with_reducible assumption)); rintro e w3 ⟨rfl, hb⟩)
        | (go_at_call 20; (with_reducible refine (HC7.out _).mono ?_); rintro e w3 ⟨rfl, hb⟩))
    go_split_ands
    have hb9 : Below w'.heap.size w' w3 := by with_reducible assumption
    replace HB := Lib.hid (on_below HB.out hb9)
    clear ia ib ic id' HC6 HC7 hb9
    go_wp2_with fail
    go_ret
    exact ⟨rfl, HB.out⟩
  have hzi : decide ((0 : Int) < (zs.length : Int)) = false := by rw [decide_eq_false_iff_not]; omega
  go_wp2_with fail
  go_ret
  exact ⟨rfl, HB.out⟩
/-! ### The row and the card -/
open Go.ChangeShapes Go.WideShapes Go.ChangeAt Go.Joins

set_option maxRecDepth 100000 in
theorem contract (H : Type) (enc : TypeId × Value → H) (W : World) (base : Nat) (args : Array Value) (ds gs : List (DataW H)) (before : List MemPlace)
    (hval : ∀ (j : Nat) t v, Tryd.f9.params[j]? = some t → args[j]? = some v → Value.okWide Tryd.prog W .any base t v)
    (hW : DataW.Whole enc Tryd.prog Tryd.f9.params.toList Rows.digestShapeSpec.vars false W args.toList ds gs before) (hL : laidMetH Tryd.prog laid3 W) :
    Calls Tryd.prog 9 args W fun e W' => ∃ v, e = .returned v ∧ Rows.digestShapeSpec.post enc Tryd.prog Tryd.f9 false true false false W args v W' := by
  have hW' := hW
  have hold : ∀ q ∈ before, decide (q.block < W.heap.size) = true := fun q hq => by simpa using hW.lt q hq
  obtain ⟨p, q, hA0, hV, rfl, hfz, hnd⟩ := hW
  have hA : DataW.TrodAll enc Tryd.prog W 0 (fun _ => true) true Tryd.f9.params.toList args.toList ds p := hA0
  rw [Tryd.params9] at hA hval
  obtain ⟨v0, vs0, d0, ds0, p0, q0, hargs, rfl, rfl, h0, r0⟩ := trodAll_cons hA
  obtain ⟨v1, vs1, d1, ds1, p1, q1, rfl, rfl, rfl, h1, r1⟩ := trodAll_cons r0
  obtain ⟨v2, vs2, d2, ds2, p2, q2, rfl, rfl, rfl, h2, r2⟩ := trodAll_cons r1
  obtain ⟨rfl, rfl, rfl⟩ := trodAll_nil r2
  obtain rfl : args = #[v0, v1, v2] := Array.toList_inj.1 hargs
  obtain ⟨rfl, rfl⟩ := trodVars_none hV
  obtain ⟨lA, lC, l, rfl, sl, wl, kl, shutl⟩ := open_nums Tryd.underlying24 Tryd.underlying25 cellsU64 (hval 0 24 v0 rfl rfl) h0
  obtain ⟨z, rfl, rfl, rfl, wz⟩ := open_int Tryd.underlying3 (hval 1 3 v1 rfl rfl) h1
  obtain ⟨m, rfl, rfl, rfl, wm⟩ := open_int Tryd.underlying25 (hval 2 25 v2 rfl rfl) h2
  clear hA0
  refine (law_any lA lC l (fun x hx => wf_u64 (wl x hx)) kl z (wf_i wz) m (wf_u64 wm) W (st_of hL) sl).mono fun e W' ⟨he, bel⟩ => ?_
  subst he
  exact ⟨_, rfl, _, _, _, [], _, [], hW', trodAll_mk1 (shut_bool Tryd.underlying4 _), (trodAll_cons_mk (shutl W' (fun b => decide (b < W.heap.size)) bel (fun q hq => hold q (by simp [hq]))) (trodAll_cons_mk (shut_int Tryd.underlying3 wz) (trodAll_cons_mk (shut_int Tryd.underlying25 wm) trodAll_mk0))), rfl, bel.frame _, fun h => by cases h⟩

theorem reads (os : Os) {H : Type} (enc : TypeId × Value → H) : ∃ places, DataW.whole enc Tryd.prog ((laidWorld os).forCall (fun _ _ => 0) ⟨#[], #[.slice none 0 0, .int .i64 0, .int .u64 0], []⟩).memory Tryd.f9.params.toList Rows.digestShapeSpec.vars false (#[.slice none 0 0, .int .i64 0, .int .u64 0] : Array Value).toList 8 = some ([.nil, .lit (.int .i64 0), .lit (.int .u64 0)], [], places) :=
  ⟨[], by kernel_rfl⟩

set_option maxRecDepth 100000 in
theorem lifted (os : Os) (started : os.Started) (H : Type) (enc : TypeId × Value → H) (F : Stop.Interp) :
    ReturnsInHanded {} Tryd.checked os 9 .any ((OpenSpec.ofChange Rows.digestShapeSpec).preRow enc Tryd.prog Tryd.f9 Rows.digestShapeRow.domain false Rows.digestShapeRow.laid) (((OpenSpec.ofChange Rows.digestShapeSpec).at F).post enc Tryd.prog Tryd.f9 false true false false) := by
  obtain ⟨places, hx⟩ := reads os enc
  refine returnsInHanded_of_row (C := Tryd.checked) (s := OpenSpec.ofChange Rows.digestShapeSpec) own started (by kernel_rfl) Tryd.func9
    (witness_row_atRef (enc := enc) (C := Tryd.checked) false (laidWorld os) #[.slice none 0 0, .int .i64 0, .int .u64 0] rfl (by kernel_rfl) (by kernel_rfl) (by kernel_rfl)
      (OpenSpec.preRow_of_cond 8 hx (by kernel_rfl) (fun k hk => by cases hk) (by kernel_rfl) (laidWorld_met3 os _))) ?_
  intro W base args ds gs before hval hW _ hcond _ hL hsh _
  exact contract H enc W base args ds gs before hval hW hL

theorem said : Rows.DigestShapeSaid :=
  OpenClaim.holds_of_cond 9 Tryd.f9 rfl rfl rfl rfl rfl rfl rfl ⟨rfl, rfl, rfl, rfl, rfl⟩ rfl rfl rfl rfl rfl (by kernel_rfl) Tryd.func9 (by kernel_rfl)
    (of_decide_eq_true (by kernel_rfl)) (by unfold Func.isWrapper; first | (rw [if_pos (by decide +kernel)]; kernel_rfl) | (rw [if_neg (by decide +kernel)]; exact ⟨rfl, rfl⟩))
    (fun os started H enc _ F => by rw [OpenClaim.pre_eq_preRow]; exact lifted os started H enc F)

theorem plain (f : FuncId) (fn : Func) (hf : Tryd.pinned.checked.prog.funcNamed "barcarole/barcarolelaw05.DigestShape" = some f) (hfn : Tryd.pinned.checked.prog.funcs[f]? = some fn) :
    false = Tryd.pinned.checked.prog.looks [] ∧ ∀ (j : Nat) t, fn.params[j]? = some t → Tryd.pinned.checked.prog.wantsStandIn t = false := by
  obtain rfl : f = 9 := Option.some.inj ((show Tryd.prog.funcNamed "barcarole/barcarolelaw05.DigestShape" = some 9 by kernel_rfl).symm.trans hf) |>.symm
  obtain rfl : fn = Tryd.f9 := (Option.some.inj (Tryd.func9.symm.trans hfn)).symm
  refine ⟨by kernel_rfl, fun j t ht => ?_⟩
  rw [Tryd.params9] at ht
  have ht' : t = 24 ∨ t = 3 ∨ t = 25 := by
    have := Array.mem_of_getElem? ht
    simp at this
    first | omega | (rcases this with h | h | h | h | h | h | h | h <;> simp [h]) | (rcases this with h | h | h | h | h | h | h <;> simp [h]) | (rcases this with h | h | h | h | h | h <;> simp [h]) | (rcases this with h | h | h | h | h <;> simp [h]) | (rcases this with h | h | h | h <;> simp [h]) | (rcases this with h | h | h <;> simp [h]) | (rcases this with h | h <;> simp [h])
  rcases ht' with rfl | rfl | rfl
  · exact (show Tryd.prog.wantsStandIn 24 = false by kernel_rfl)
  · exact (show Tryd.prog.wantsStandIn 3 = false by kernel_rfl)
  · exact (show Tryd.prog.wantsStandIn 25 = false by kernel_rfl)

/-- The statement. -/
theorem card : Rows.DigestShapeCardSaid :=
  Claim7.holds_tied_plain_at .later [] _ _ _ _ said (fun _ h => by cases h) (by kernel_rfl) (fun _ h => by cases h) digestShape_row_tie rfl ⟨rfl, rfl⟩ (by kernel_rfl) rfl plain (by kernel_rfl)
end Go.Proofs.YtpplpnmammpkpaaDoor.digestShape
