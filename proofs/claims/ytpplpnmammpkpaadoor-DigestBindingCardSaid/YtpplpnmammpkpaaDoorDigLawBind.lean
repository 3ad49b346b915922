/-
  P5.6: whatever is accepted for a leaf is the leaf and its path, or two different strings of bytes have the same digest.
-/
import Derived.Test.YtpplpnmammpkpaaDoorDigCl
import Derived.Test.YtpplpnmammpkpaaDoorCards
import Derived.Test.YtpplpnmammpkpaaDoorTie
import Derived.Deep.DeepCutAuto
namespace Go.Proofs.YtpplpnmammpkpaaDoor.digestBinding
open Go.RowKit Go.Sort
open Go.RowKit (Below)
set_option linter.unusedVariables false
set_option linter.unusedSimpArgs false

/-- What the law's last line comes to. -/
theorem bind {r v x : Int} {j n : Nat} {p zs : List Int} (h1 : chkB r v j n p = true) (h2 : chkB r x j n zs = true) (hne : ¬ (v = x ∧ p = zs)) (hv : U64 v) (hx : U64 x) (hj : j < n) (hn : n ≤ 1024) :
    p.length = zs.length ∧ CI r j n 0 (byB 0 [v]) (byB 0 [x]) p zs := by
  have c : (n : Int) ≤ 1024 ∧ (0 : Int) ≤ (j : Int) ∧ (j : Int) < (n : Int) := ⟨by omega, by omega, by omega⟩
  unfold chkB at h1 h2
  rw [if_pos c] at h1 h2
  simp only [Int.toNat_natCast] at h1 h2
  exact ⟨by rw [chkW_len n _ _ _ _ _ (Nat.le_refl _) h1, chkW_len n _ _ _ _ _ (Nat.le_refl _) h2], CI.start h1 h2 hne hv hx hj hn⟩
set_option maxRecDepth 100000 in
set_option maxHeartbeats 4000000 in
theorem law_any (lA : Option Addr) (lC : Nat) (l : List Int) (jl : ∀ x ∈ l, U64 x) (kl : l.length ≤ lC ∧ lC ≤ 9223372036854775807) (z : Int) (iz : I64 z) (v : Int) (iv : U64 v) (pA : Option Addr) (pC : Nat) (p : List Int) (jp : ∀ x ∈ p, U64 x) (kp : p.length ≤ pC ∧ pC ≤ 9223372036854775807) (w : World) (hs : St w) (sl : Sk .u64 w lA l) (sp : Sk .u64 w pA p) :
    Calls Tryd.prog 8 #[.slice lA l.length lC, .int .i64 z, .int .u64 v, .slice pA p.length pC] w fun e w' => e = .returned (.bool true) ∧ Below w.heap.size w w' := by
  have HS := Lib.hid hs
  clear hs
  have Hl := Lib.hid sl
  clear sl
  have Jl := Lib.hid jl
  clear jl
  have Kl := Lib.hid kl
  clear kl
  have Iz := Lib.hid iz
  clear iz
  have Iv := Lib.hid iv
  clear iv
  have Hp := Lib.hid sp
  clear sp
  have Jp := Lib.hid jp
  clear jp
  have Kp := Lib.hid kp
  clear kp
  by_cases h0 : l.length = 0
  · obtain rfl : l = [] := List.eq_nil_of_length_eq_zero h0
    clear h0
    have HB := Lib.hid (Below.refl w.heap.size w)
    go_enter Tryd.func8, Tryd.ntmps8
    go_wp2_with fail
    refine (head_any _ HS.out).mono ?_
    rintro e w' ⟨rfl, hb⟩
    replace HB := Lib.hid (on_below HB.out hb)
    replace HS := Lib.hid (HS.out.on hb)
    replace Hl := Lib.hid (Hl.out.below hb)
    replace Hp := Lib.hid (Hp.out.below hb)
    clear hb
    go_wp2_with fail
    go_ret
    exact ⟨rfl, HB.out⟩
  have he : ((l.length : Int) == 0) = false := by rw [beq_eq_false_iff_ne]; omega
  by_cases h1 : 1024 < l.length
  · have hd : decide (1024 < (l.length : Int)) = true := by rw [decide_eq_true_eq]; omega
    clear h0
    have HB := Lib.hid (Below.refl w.heap.size w)
    go_enter Tryd.func8, Tryd.ntmps8
    go_wp2_with fail
    refine (head_any _ HS.out).mono ?_
    rintro e w' ⟨rfl, hb⟩
    replace HB := Lib.hid (on_below HB.out hb)
    replace HS := Lib.hid (HS.out.on hb)
    replace Hl := Lib.hid (Hl.out.below hb)
    replace Hp := Lib.hid (Hp.out.below hb)
    clear hb
    go_wp2_with fail
    go_ret
    exact ⟨rfl, HB.out⟩
  have hd : decide (1024 < (l.length : Int)) = false := by rw [decide_eq_false_iff_not]; omega
  have hpos : 0 < l.length := by omega
  have hfew : l.length ≤ 1024 := by omega
  clear h0 h1
  obtain ⟨z1, z2⟩ := Iz.out
  have HB := Lib.hid (Below.refl w.heap.size w)
  go_enter Tryd.func8, Tryd.ntmps8
  go_wp2_with fail
  refine (head_any _ HS.out).mono ?_
  rintro e w' ⟨rfl, hb⟩
  replace HB := Lib.hid (on_below HB.out hb)
  replace HS := Lib.hid (HS.out.on hb)
  replace Hl := Lib.hid (Hl.out.below hb)
  replace Hp := Lib.hid (Hp.out.below hb)
  clear hb
  go_wp2_with fail
  obtain ⟨j, ej, hj⟩ := ix_ex z l.length hpos (by omega)
  rw [ej]
  clear ej
  obtain ⟨r, zs, hpf⟩ := pf hpos hfew hj
  have Hp0 := Lib.hid hpf
  clear hpf
  refine (root_is _ _ l r 0 Hp0.out.root Hp0.out.e0 _ (le_max Kl.out) Jl.out Hl.out).mono ?_
  rintro e w' ⟨rfl, hb⟩
  replace HB := Lib.hid (on_below HB.out hb)
  replace HS := Lib.hid (HS.out.on hb)
  replace Hl := Lib.hid (Hl.out.below hb)
  replace Hp := Lib.hid (Hp.out.below hb)
  clear hb
  go_wp2_with fail
  refine (path_is _ _ l _ zs 0 Hp0.out.path Hp0.out.e1 _ (le_max Kl.out) Jl.out Hl.out).mono ?_
  rintro e w' ⟨App, Cpp, rfl, qa, qb, ⟨hl, _⟩, hb⟩
  replace HB := Lib.hid (on_below HB.out hb)
  replace HS := Lib.hid (HS.out.on hb)
  replace Hl := Lib.hid (Hl.out.below hb)
  replace Hp := Lib.hid (Hp.out.below hb)
  have Hpp := Lib.hid hl
  have Qpp := Lib.hid (And.intro qa qb)
  clear hb hl qa qb
  have ht : zs.length ≤ 10 := Hp0.out.ten
  have hj2 : (j : Int) < (l.length : Int) := by omega
  obtain ⟨b, o, rfl, hc⟩ := Hl.out j hj
  have HU := Lib.hid (gd_u Jl.out j)
  have HC := Lib.hid Hp0.out.chk
  have HZ := Lib.hid Hp0.out.u
  clear Hp0 z1 z2
  generalize gd l j = x at *
  have hkc := fun (u u' : World) (hb : Below u.heap.size u u') (hc : u.cell? ⟨b, o + j, none⟩ = some (.int .u64 x)) => keepc'' hb hc
  have HKC := Lib.hid hkc
  clear hkc
  have hpl := le_max Kp.out
  have Hhl := Lib.hid hpl
  clear hpl
  cases hV : chkB r v j l.length p with
  | false =>
    have HV := Lib.hid hV
    clear hV
    go_wp2_with fail
    refine (check_any r v j l.length pA pC p _ false HV.out Iv.out Hhl.out Kp.out.1 Jp.out Hp.out).mono ?_
    rintro e w' ⟨rfl, hb⟩
    replace hc := HKC.out _ _ hb hc
    replace HB := Lib.hid (on_below HB.out hb)
    replace HS := Lib.hid (HS.out.on hb)
    replace Hl := Lib.hid (Hl.out.below hb)
    replace Hp := Lib.hid (Hp.out.below hb)
    replace Hpp := Lib.hid (Hpp.out.below hb)
    clear hb
    go_wp2_with fail
    go_ret
    exact ⟨rfl, HB.out⟩
  | true =>
    have HV := Lib.hid hV
    clear hV
    by_cases hvx : v = x
    · have ev : (v == x) = true := by rw [beq_iff_eq]; exact hvx
      by_cases hpz : p = zs
      · have HD := Lib.hid (show decide (p = zs) = true from decide_eq_true hpz)
        clear hpz hvx
        go_wp2_with fail
        refine (check_any r v j l.length pA pC p _ true HV.out Iv.out Hhl.out Kp.out.1 Jp.out Hp.out).mono ?_
        rintro e w' ⟨rfl, hb⟩
        replace hc := HKC.out _ _ hb hc
        replace HB := Lib.hid (on_below HB.out hb)
        replace HS := Lib.hid (HS.out.on hb)
        replace Hl := Lib.hid (Hl.out.below hb)
        replace Hp := Lib.hid (Hp.out.below hb)
        replace Hpp := Lib.hid (Hpp.out.below hb)
        clear hb
        go_wp2_with fail
        refine (same_any pA App pC Cpp p zs _ true HD.out Hhl.out (by omega) Hp.out Hpp.out).mono ?_
        rintro e w' ⟨rfl, hb⟩
        replace hc := HKC.out _ _ hb hc
        replace HB := Lib.hid (on_below HB.out hb)
        replace HS := Lib.hid (HS.out.on hb)
        replace Hl := Lib.hid (Hl.out.below hb)
        replace Hp := Lib.hid (Hp.out.below hb)
        replace Hpp := Lib.hid (Hpp.out.below hb)
        clear hb
        go_wp2_with fail
        go_ret
        exact ⟨rfl, HB.out⟩
      · have HD := Lib.hid (show decide (p = zs) = false from decide_eq_false hpz)
        have HB2 := Lib.hid (bind HV.out HC.out (fun h => hpz h.2) Iv.out HU.out hj hfew)
        have hll : ((p.length : Int) == (zs.length : Int)) = true := by rw [beq_iff_eq]; have := HB2.out.1; omega
        clear hpz hvx
        go_wp2_with fail
        refine (check_any r v j l.length pA pC p _ true HV.out Iv.out Hhl.out Kp.out.1 Jp.out Hp.out).mono ?_
        rintro e w' ⟨rfl, hb⟩
        replace hc := HKC.out _ _ hb hc
        replace HB := Lib.hid (on_below HB.out hb)
        replace HS := Lib.hid (HS.out.on hb)
        replace Hl := Lib.hid (Hl.out.below hb)
        replace Hp := Lib.hid (Hp.out.below hb)
        replace Hpp := Lib.hid (Hpp.out.below hb)
        clear hb
        go_wp2_with fail
        refine (same_any pA App pC Cpp p zs _ false HD.out Hhl.out (by omega) Hp.out Hpp.out).mono ?_
        rintro e w' ⟨rfl, hb⟩
        replace hc := HKC.out _ _ hb hc
        replace HB := Lib.hid (on_below HB.out hb)
        replace HS := Lib.hid (HS.out.on hb)
        replace Hl := Lib.hid (Hl.out.below hb)
        replace Hp := Lib.hid (Hp.out.below hb)
        replace Hpp := Lib.hid (Hpp.out.below hb)
        clear hb
        go_wp2_with fail
        refine (clash_any v x r j l.length p zs pA App pC Cpp _ HB2.out.2 Iv.out HU.out (by have := HB2.out.1; omega) (by omega) Jp.out HZ.out Hp.out Hpp.out).mono ?_
        rintro e w' ⟨rfl, hb⟩
        replace HB := Lib.hid (on_below HB.out hb)
        replace HS := Lib.hid (HS.out.on hb)
        replace Hl := Lib.hid (Hl.out.below hb)
        replace Hp := Lib.hid (Hp.out.below hb)
        replace Hpp := Lib.hid (Hpp.out.below hb)
        clear hb
        go_wp2_with fail
        go_ret
        exact ⟨rfl, HB.out⟩
    · have ev : (v == x) = false := by rw [beq_eq_false_iff_ne]; exact hvx
      have HB2 := Lib.hid (bind HV.out HC.out (fun h => hvx h.1) Iv.out HU.out hj hfew)
      have hll : ((p.length : Int) == (zs.length : Int)) = true := by rw [beq_iff_eq]; have := HB2.out.1; omega
      clear hvx
      go_wp2_with fail
      refine (check_any r v j l.length pA pC p _ true HV.out Iv.out Hhl.out Kp.out.1 Jp.out Hp.out).mono ?_
      rintro e w' ⟨rfl, hb⟩
      replace hc := HKC.out _ _ hb hc
      replace HB := Lib.hid (on_below HB.out hb)
      replace HS := Lib.hid (HS.out.on hb)
      replace Hl := Lib.hid (Hl.out.below hb)
      replace Hp := Lib.hid (Hp.out.below hb)
      replace Hpp := Lib.hid (Hpp.out.below hb)
      clear hb
      go_wp2_with fail
      refine (clash_any v x r j l.length p zs pA App pC Cpp _ HB2.out.2 Iv.out HU.out (by have := HB2.out.1; omega) (by omega) Jp.out HZ.out Hp.out Hpp.out).mono ?_
      rintro e w' ⟨rfl, hb⟩
      replace HB := Lib.hid (on_below HB.out hb)
      replace HS := Lib.hid (HS.out.on hb)
      replace Hl := Lib.hid (Hl.out.below hb)
      replace Hp := Lib.hid (Hp.out.below hb)
      replace Hpp := Lib.hid (Hpp.out.below hb)
      clear hb
      go_wp2_with fail
      go_ret
      exact ⟨rfl, HB.out⟩
/-! ### The row and the card -/
open Go.ChangeShapes Go.WideShapes Go.ChangeAt Go.Joins

set_option maxRecDepth 100000 in
theorem contract (H : Type) (enc : TypeId × Value → H) (W : World) (base : Nat) (args : Array Value) (ds gs : List (DataW H)) (before : List MemPlace)
    (hval : ∀ (j : Nat) t v, Tryd.f8.params[j]? = some t → args[j]? = some v → Value.okWide Tryd.prog W .any base t v)
    (hW : DataW.Whole enc Tryd.prog Tryd.f8.params.toList Rows.digestBindingSpec.vars false W args.toList ds gs before) (hL : laidMetH Tryd.prog laid3 W) :
    Calls Tryd.prog 8 args W fun e W' => ∃ v, e = .returned v ∧ Rows.digestBindingSpec.post enc Tryd.prog Tryd.f8 false true false false W args v W' := by
  have hW' := hW
  have hold : ∀ q ∈ before, decide (q.block < W.heap.size) = true := fun q hq => by simpa using hW.lt q hq
  obtain ⟨p, q, hA0, hV, rfl, hfz, hnd⟩ := hW
  have hA : DataW.TrodAll enc Tryd.prog W 0 (fun _ => true) true Tryd.f8.params.toList args.toList ds p := hA0
  rw [Tryd.params8] at hA hval
  obtain ⟨v0, vs0, d0, ds0, p0, q0, hargs, rfl, rfl, h0, r0⟩ := trodAll_cons hA
  obtain ⟨v1, vs1, d1, ds1, p1, q1, rfl, rfl, rfl, h1, r1⟩ := trodAll_cons r0
  obtain ⟨v2, vs2, d2, ds2, p2, q2, rfl, rfl, rfl, h2, r2⟩ := trodAll_cons r1
  obtain ⟨v3, vs3, d3, ds3, p3, q3, rfl, rfl, rfl, h3, r3⟩ := trodAll_cons r2
  obtain ⟨rfl, rfl, rfl⟩ := trodAll_nil r3
  obtain rfl : args = #[v0, v1, v2, v3] := Array.toList_inj.1 hargs
  obtain ⟨rfl, rfl⟩ := trodVars_none hV
  obtain ⟨lA, lC, l, rfl, sl, wl, kl, shutl⟩ := open_nums Tryd.underlying24 Tryd.underlying25 cellsU64 (hval 0 24 v0 rfl rfl) h0
  obtain ⟨z, rfl, rfl, rfl, wz⟩ := open_int Tryd.underlying3 (hval 1 3 v1 rfl rfl) h1
  obtain ⟨v, rfl, rfl, rfl, wv⟩ := open_int Tryd.underlying25 (hval 2 25 v2 rfl rfl) h2
  obtain ⟨pA, pC, p, rfl, sp, wp, kp, shutp⟩ := open_nums Tryd.underlying24 Tryd.underlying25 cellsU64 (hval 3 24 v3 rfl rfl) h3
  clear hA0
  refine (law_any lA lC l (fun x hx => wf_u64 (wl x hx)) kl z (wf_i wz) v (wf_u64 wv) pA pC p (fun x hx => wf_u64 (wp x hx)) kp W (st_of hL) sl sp).mono fun e W' ⟨he, bel⟩ => ?_
  subst he
  exact ⟨_, rfl, _, _, _, [], _, [], hW', trodAll_mk1 (shut_bool Tryd.underlying4 _), (trodAll_cons_mk (shutl W' (fun b => decide (b < W.heap.size)) bel (fun q hq => hold q (by simp [hq]))) (trodAll_cons_mk (shut_int Tryd.underlying3 wz) (trodAll_cons_mk (shut_int Tryd.underlying25 wv) (trodAll_cons_mk (shutp W' (fun b => decide (b < W.heap.size)) bel (fun q hq => hold q (by simp [hq]))) trodAll_mk0)))), rfl, bel.frame _, fun h => by cases h⟩

theorem reads (os : Os) {H : Type} (enc : TypeId × Value → H) : ∃ places, DataW.whole enc Tryd.prog ((laidWorld os).forCall (fun _ _ => 0) ⟨#[], #[.slice none 0 0, .int .i64 0, .int .u64 0, .slice none 0 0], []⟩).memory Tryd.f8.params.toList Rows.digestBindingSpec.vars false (#[.slice none 0 0, .int .i64 0, .int .u64 0, .slice none 0 0] : Array Value).toList 8 = some ([.nil, .lit (.int .i64 0), .lit (.int .u64 0), .nil], [], places) :=
  ⟨[], by kernel_rfl⟩

set_option maxRecDepth 100000 in
theorem lifted (os : Os) (started : os.Started) (H : Type) (enc : TypeId × Value → H) (F : Stop.Interp) :
    ReturnsInHanded {} Tryd.checked os 8 .any ((OpenSpec.ofChange Rows.digestBindingSpec).preRow enc Tryd.prog Tryd.f8 Rows.digestBindingRow.domain false Rows.digestBindingRow.laid) (((OpenSpec.ofChange Rows.digestBindingSpec).at F).post enc Tryd.prog Tryd.f8 false true false false) := by
  obtain ⟨places, hx⟩ := reads os enc
  refine returnsInHanded_of_row (C := Tryd.checked) (s := OpenSpec.ofChange Rows.digestBindingSpec) own started (by kernel_rfl) Tryd.func8
    (witness_row_atRef (enc := enc) (C := Tryd.checked) false (laidWorld os) #[.slice none 0 0, .int .i64 0, .int .u64 0, .slice none 0 0] rfl (by kernel_rfl) (by kernel_rfl) (by kernel_rfl)
      (OpenSpec.preRow_of_cond 8 hx (by kernel_rfl) (fun k hk => by cases hk) (by kernel_rfl) (laidWorld_met3 os _))) ?_
  intro W base args ds gs before hval hW _ hcond _ hL hsh _
  exact contract H enc W base args ds gs before hval hW hL

theorem said : Rows.DigestBindingSaid :=
  OpenClaim.holds_of_cond 8 Tryd.f8 rfl rfl rfl rfl rfl rfl rfl ⟨rfl, rfl, rfl, rfl, rfl⟩ rfl rfl rfl rfl rfl (by kernel_rfl) Tryd.func8 (by kernel_rfl)
    (of_decide_eq_true (by kernel_rfl)) (by unfold Func.isWrapper; first | (rw [if_pos (by decide +kernel)]; kernel_rfl) | (rw [if_neg (by decide +kernel)]; exact ⟨rfl, rfl⟩))
    (fun os started H enc _ F => by rw [OpenClaim.pre_eq_preRow]; exact lifted os started H enc F)

theorem plain (f : FuncId) (fn : Func) (hf : Tryd.pinned.checked.prog.funcNamed "barcarole/barcarolelaw05.DigestBinding" = some f) (hfn : Tryd.pinned.checked.prog.funcs[f]? = some fn) :
    false = Tryd.pinned.checked.prog.looks [] ∧ ∀ (j : Nat) t, fn.params[j]? = some t → Tryd.pinned.checked.prog.wantsStandIn t = false := by
  obtain rfl : f = 8 := Option.some.inj ((show Tryd.prog.funcNamed "barcarole/barcarolelaw05.DigestBinding" = some 8 by kernel_rfl).symm.trans hf) |>.symm
  obtain rfl : fn = Tryd.f8 := (Option.some.inj (Tryd.func8.symm.trans hfn)).symm
  refine ⟨by kernel_rfl, fun j t ht => ?_⟩
  rw [Tryd.params8] at ht
  have ht' : t = 24 ∨ t = 3 ∨ t = 25 := by
    have := Array.mem_of_getElem? ht
    simp at this
    first | omega | (rcases this with h | h | h | h | h | h | h | h <;> simp [h]) | (rcases this with h | h | h | h | h | h | h <;> simp [h]) | (rcases this with h | h | h | h | h | h <;> simp [h]) | (rcases this with h | h | h | h | h <;> simp [h]) | (rcases this with h | h | h | h <;> simp [h]) | (rcases this with h | h | h <;> simp [h]) | (rcases this with h | h <;> simp [h])
  rcases ht' with rfl | rfl | rfl
  · exact (show Tryd.prog.wantsStandIn 24 = false by kernel_rfl)
  · exact (show Tryd.prog.wantsStandIn 3 = false by kernel_rfl)
  · exact (show Tryd.prog.wantsStandIn 25 = false by kernel_rfl)

/-- The statement. -/
theorem card : Rows.DigestBindingCardSaid :=
  Claim7.holds_tied_plain_at .later [] _ _ _ _ said (fun _ h => by cases h) (by kernel_rfl) (fun _ h => by cases h) digestBinding_row_tie rfl ⟨rfl, rfl⟩ (by kernel_rfl) rfl plain (by kernel_rfl)
end Go.Proofs.YtpplpnmammpkpaaDoor.digestBinding
