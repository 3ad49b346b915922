/-
  P5.4: the root is the digest of 1 and the roots of the first leaves and of the others.
-/
import Derived.Test.YtpplpnmammpkpaaDoorDigX
import Derived.Test.YtpplpnmammpkpaaDoorCards
import Derived.Test.YtpplpnmammpkpaaDoorTie
import Derived.Deep.DeepCutAuto
namespace Go.Proofs.YtpplpnmammpkpaaDoor.digestTree
open Go.RowKit Go.Sort
open Go.RowKit (Below)
set_option linter.unusedVariables false
set_option linter.unusedSimpArgs false

set_option maxRecDepth 100000 in
set_option maxHeartbeats 2000000 in
theorem one_any (A : Option Addr) (C : Nat) (x : Int) (hx : U64 x) (w : World) (hs : St w) (h : Sk .u64 w A [x]) :
    Calls Tryd.prog 6 #[.slice A 1 C] w fun e w' => e = .returned (.bool true) ∧ Below w.heap.size w w' := by
  obtain ⟨r, hr, hr2⟩ : ∃ r, rtV [x] = r ∧ dig (byB 0 [x]) = r := ⟨_, rfl, (rt_one x).symm⟩
  have HR := Lib.hid hr
  have HR2 := Lib.hid hr2
  have Ix := Lib.hid hx
  clear hx
  have HS := Lib.hid hs
  clear hs
  have Hl := Lib.hid h
  clear h
  clear hr hr2
  have HB := Lib.hid (Below.refl w.heap.size w)
  go_enter Tryd.func6, Tryd.ntmps6
  go_wp2_with fail
  refine (head_any _ HS.out).mono ?_
  rintro e w' ⟨rfl, hb⟩
  replace HB := Lib.hid (on_below HB.out hb)
  replace HS := Lib.hid (HS.out.on hb)
  replace Hl := Lib.hid (Hl.out.below hb)
  clear hb
  go_wp2_with fail
  refine (root_is _ _ [x] r 0 HR.out rfl _ (by simp) (u_one Ix.out) Hl.out).mono ?_
  rintro e w' ⟨rfl, hb⟩
  replace HB := Lib.hid (on_below HB.out hb)
  replace HS := Lib.hid (HS.out.on hb)
  replace Hl := Lib.hid (Hl.out.below hb)
  clear hb
  obtain ⟨b, o, rfl, hc⟩ := Hl.out 0 (by simp)
  have hc' : w'.cell? ⟨b, o, none⟩ = some (.int .u64 x) := hc
  clear hc
  go_wp2_with fail
  clear hc'
  generalize hV : World.alloc w' (.cells #[.int .u64 x] 25) = V1 at *
  have Ho := Lib.hid (show Sk .u64 V1 (some ⟨(w').heap.size, 0, none⟩) [x] from hV ▸ sk_rowF [x] (heap_alloc_new (w') _))
  have hb : Below (w').heap.size (w') V1 := hV ▸ below_new _ _
  replace HB := Lib.hid (on_below HB.out hb)
  replace HS := Lib.hid (HS.out.on hb)
  replace Hl := Lib.hid (Hl.out.below hb)
  clear hb hV
  refine (bytes_any 0 _ 1 [x] _ (by simp) (u_one Ix.out) Ho.out).mono ?_
  rintro e w' ⟨Ay, Cy, rfl, qa, qb, ⟨hl, _⟩, hb⟩
  replace HB := Lib.hid (on_below HB.out hb)
  replace HS := Lib.hid (HS.out.on hb)
  replace Hl := Lib.hid (Hl.out.below hb)
  replace Ho := Lib.hid (Ho.out.below hb)
  have Hy := Lib.hid hl
  have Qy := Lib.hid (And.intro qa qb)
  clear hb hl qa qb
  go_wp2_with fail
  refine (sum_is _ _ (byB 0 [x]) r HR2.out _ (by rw [byB_len]; simp) Hy.out).mono ?_
  rintro e w' ⟨rfl, rfl⟩
  go_wp2_with fail
  go_ret
  exact ⟨rfl, HB.out⟩

set_option maxRecDepth 100000 in
set_option maxHeartbeats 2000000 in
theorem law_any (lA : Option Addr) (lC : Nat) (l : List Int) (jl : ∀ x ∈ l, U64 x) (kl : l.length ≤ lC ∧ lC ≤ 9223372036854775807) (w : World) (hs : St w) (sl : Sk .u64 w lA l) :
    Calls Tryd.prog 6 #[.slice lA l.length lC] w fun e w' => e = .returned (.bool true) ∧ Below w.heap.size w w' := by
  have HS := Lib.hid hs
  clear hs
  have Hl := Lib.hid sl
  clear sl
  have Jl := Lib.hid jl
  clear jl
  have Kl := Lib.hid kl
  clear kl
  by_cases h0 : l.length = 0
  · obtain rfl : l = [] := List.eq_nil_of_length_eq_zero h0
    clear h0
    have HB := Lib.hid (Below.refl w.heap.size w)
    go_enter Tryd.func6, Tryd.ntmps6
    go_wp2_with fail
    refine (head_any _ HS.out).mono ?_
    rintro e w' ⟨rfl, hb⟩
    replace HB := Lib.hid (on_below HB.out hb)
    replace HS := Lib.hid (HS.out.on hb)
    replace Hl := Lib.hid (Hl.out.below hb)
    clear hb
    go_wp2_with fail
    go_ret
    exact ⟨rfl, HB.out⟩
  have he : ((l.length : Int) == 0) = false := by rw [beq_eq_false_iff_ne]; omega
  by_cases h1 : 1024 < l.length
  · have hd : decide (1024 < (l.length : Int)) = true := by rw [decide_eq_true_eq]; omega
    clear h0
    have HB := Lib.hid (Below.refl w.heap.size w)
    go_enter Tryd.func6, Tryd.ntmps6
    go_wp2_with fail
    refine (head_any _ HS.out).mono ?_
    rintro e w' ⟨rfl, hb⟩
    replace HB := Lib.hid (on_below HB.out hb)
    replace HS := Lib.hid (HS.out.on hb)
    replace Hl := Lib.hid (Hl.out.below hb)
    clear hb
    go_wp2_with fail
    go_ret
    exact ⟨rfl, HB.out⟩
  have hd : decide (1024 < (l.length : Int)) = false := by rw [decide_eq_false_iff_not]; omega
  have hpos : 0 < l.length := by omega
  have hfew : l.length ≤ 1024 := by omega
  clear h0 h1
  by_cases hone : l.length = 1
  · obtain ⟨x, rfl⟩ := List.length_eq_one_iff.1 hone
    exact one_any lA lC x (Jl.out x (by simp)) w HS.out Hl.out
  have hone2 : ((l.length : Int) == 1) = false := by rw [beq_eq_false_iff_ne]; omega
  have htwo : 1 < l.length := by omega
  clear hone
  have HE := Lib.hid (lvE_ok.2 ⟨hpos, hfew⟩)
  obtain ⟨r, hr⟩ : ∃ r, rtV l = r := ⟨_, rfl⟩
  have HR := Lib.hid hr
  clear hr
  have HB := Lib.hid (Below.refl w.heap.size w)
  go_enter Tryd.func6, Tryd.ntmps6
  go_wp2_with fail
  refine (head_any _ HS.out).mono ?_
  rintro e w' ⟨rfl, hb⟩
  replace HB := Lib.hid (on_below HB.out hb)
  replace HS := Lib.hid (HS.out.on hb)
  replace Hl := Lib.hid (Hl.out.below hb)
  clear hb
  go_wp2_with fail
  refine (root_is _ _ l r 0 HR.out HE.out _ (le_max Kl.out) Jl.out Hl.out).mono ?_
  rintro e w' ⟨rfl, hb⟩
  replace HB := Lib.hid (on_below HB.out hb)
  replace HS := Lib.hid (HS.out.on hb)
  replace Hl := Lib.hid (Hl.out.below hb)
  clear hb
  go_wp2_with fail
  go_loop [6] (fun m => ∃ k : Nat, m = .int .i64 k ∧ k < l.length ∧ 0 < k ∧ Hid (∃ e, k = 2 ^ e)) (fun m => l.length - (intOf m).toNat)
  case atStart => exact ⟨1, rfl, by omega, by omega, ⟨0, rfl⟩⟩
  case round =>
    obtain ⟨k, rfl, hk, hk0, HK⟩ := hrel
    by_cases h2 : 2 * k < l.length
    · have HN := Lib.hid (show ∃ e, 2 * k = 2 ^ e from let ⟨e, he⟩ := HK.out; ⟨e + 1, by rw [he, Nat.pow_succ, Nat.mul_comm]⟩)
      clear HK
      go_wp2_with fail
      go_round
      case rel => exact ⟨2 * k, by go_num, by omega, by omega, HN⟩
      case measure => simp [intOf]; omega
    obtain ⟨e, he⟩ := HK.out
    have Ht := Lib.hid (tf he hk (by omega) hfew)
    rw [HR.out] at Ht
    clear he HK
    have HUa := Lib.hid (fun x (hx : x ∈ l.take k) => Jl.out x (List.mem_of_mem_take hx))
    have HUb := Lib.hid (fun x (hx : x ∈ l.drop k) => Jl.out x (List.mem_of_mem_drop hx))
    have hkC : (k : Int) ≤ (lC : Int) := by have := Kl.out.1; omega
    have hkn : (k : Int) ≤ (l.length : Int) := by omega
    have hne : ¬ lC = k := by have := Kl.out.1; omega
    generalize rtV (l.take k) = a at *
    generalize rtV (l.drop k) = b at *
    obtain ⟨bb, oo, rfl, -⟩ := Hl.out 0 hpos
    go_wp2_with fail
    refine (root_n _ _ k (l.take k) Ht.out.la a 0 Ht.out.ta Ht.out.ea _ (by rw [Ht.out.la]; omega) HUa.out (Hl.out.take k)).mono ?_
    rintro e w' ⟨rfl, hb⟩
    replace HB := Lib.hid (on_below HB.out hb)
    replace HS := Lib.hid (HS.out.on hb)
    replace Hl := Lib.hid (Hl.out.below hb)
    clear hb
    go_wp2_with fail
    refine (root_n _ _ (l.length - k) (l.drop k) Ht.out.lb b 0 Ht.out.tb Ht.out.eb _ (by rw [Ht.out.lb]; omega) HUb.out (sk_dropn Hl.out k)).mono ?_
    rintro e w' ⟨rfl, hb⟩
    replace HB := Lib.hid (on_below HB.out hb)
    replace HS := Lib.hid (HS.out.on hb)
    replace Hl := Lib.hid (Hl.out.below hb)
    clear hb
    go_wp2_with fail
    generalize hV : World.alloc w' (.cells #[.int .u64 a, .int .u64 b] 25) = V1 at *
    have Ho := Lib.hid (show Sk .u64 V1 (some ⟨(w').heap.size, 0, none⟩) [a, b] from hV ▸ sk_rowF [a, b] (heap_alloc_new (w') _))
    have hb : Below (w').heap.size (w') V1 := hV ▸ below_new _ _
    replace HB := Lib.hid (on_below HB.out hb)
    replace HS := Lib.hid (HS.out.on hb)
    replace Hl := Lib.hid (Hl.out.below hb)
    clear hb hV
    refine (bytes_any 1 _ 2 [a, b] _ (by simp) (u_two Ht.out.ua Ht.out.ub) Ho.out).mono ?_
    rintro e w' ⟨Ay, Cy, rfl, qa, qb, ⟨hl, _⟩, hb⟩
    replace HB := Lib.hid (on_below HB.out hb)
    replace HS := Lib.hid (HS.out.on hb)
    replace Hl := Lib.hid (Hl.out.below hb)
    replace Ho := Lib.hid (Ho.out.below hb)
    have Hy := Lib.hid hl
    have Qy := Lib.hid (And.intro qa qb)
    clear hb hl qa qb
    go_wp2_with fail
    refine (sum_is _ _ (byB 1 [a, b]) r Ht.out.sum _ (by rw [byB_len]; simp) Hy.out).mono ?_
    rintro e w' ⟨rfl, rfl⟩
    go_wp2_with fail
    go_ret
    exact ⟨rfl, HB.out⟩
/-! ### The row and the card -/
open Go.ChangeShapes Go.WideShapes Go.ChangeAt Go.Joins

set_option maxRecDepth 100000 in
theorem contract (H : Type) (enc : TypeId × Value → H) (W : World) (base : Nat) (args : Array Value) (ds gs : List (DataW H)) (before : List MemPlace)
    (hval : ∀ (j : Nat) t v, Tryd.f6.params[j]? = some t → args[j]? = some v → Value.okWide Tryd.prog W .any base t v)
    (hW : DataW.Whole enc Tryd.prog Tryd.f6.params.toList Rows.digestTreeSpec.vars false W args.toList ds gs before) (hL : laidMetH Tryd.prog laid3 W) :
    Calls Tryd.prog 6 args W fun e W' => ∃ v, e = .returned v ∧ Rows.digestTreeSpec.post enc Tryd.prog Tryd.f6 false true false false W args v W' := by
  have hW' := hW
  have hold : ∀ q ∈ before, decide (q.block < W.heap.size) = true := fun q hq => by simpa using hW.lt q hq
  obtain ⟨p, q, hA0, hV, rfl, hfz, hnd⟩ := hW
  have hA : DataW.TrodAll enc Tryd.prog W 0 (fun _ => true) true Tryd.f6.params.toList args.toList ds p := hA0
  rw [Tryd.params6] at hA hval
  obtain ⟨v0, vs0, d0, ds0, p0, q0, hargs, rfl, rfl, h0, r0⟩ := trodAll_cons hA
  obtain ⟨rfl, rfl, rfl⟩ := trodAll_nil r0
  obtain rfl : args = #[v0] := Array.toList_inj.1 hargs
  obtain ⟨rfl, rfl⟩ := trodVars_none hV
  obtain ⟨lA, lC, l, rfl, sl, wl, kl, shutl⟩ := open_nums Tryd.underlying24 Tryd.underlying25 cellsU64 (hval 0 24 v0 rfl rfl) h0
  clear hA0
  refine (law_any lA lC l (fun x hx => wf_u64 (wl x hx)) kl W (st_of hL) sl).mono fun e W' ⟨he, bel⟩ => ?_
  subst he
  exact ⟨_, rfl, _, _, _, [], _, [], hW', trodAll_mk1 (shut_bool Tryd.underlying4 _), (trodAll_cons_mk (shutl W' (fun b => decide (b < W.heap.size)) bel (fun q hq => hold q (by simp [hq]))) trodAll_mk0), rfl, bel.frame _, fun h => by cases h⟩

theorem reads (os : Os) {H : Type} (enc : TypeId × Value → H) : ∃ places, DataW.whole enc Tryd.prog ((laidWorld os).forCall (fun _ _ => 0) ⟨#[], #[.slice none 0 0], []⟩).memory Tryd.f6.params.toList Rows.digestTreeSpec.vars false (#[.slice none 0 0] : Array Value).toList 8 = some ([.nil], [], places) :=
  ⟨[], by kernel_rfl⟩

set_option maxRecDepth 100000 in
theorem lifted (os : Os) (started : os.Started) (H : Type) (enc : TypeId × Value → H) (F : Stop.Interp) :
    ReturnsInHanded {} Tryd.checked os 6 .any ((OpenSpec.ofChange Rows.digestTreeSpec).preRow enc Tryd.prog Tryd.f6 Rows.digestTreeRow.domain false Rows.digestTreeRow.laid) (((OpenSpec.ofChange Rows.digestTreeSpec).at F).post enc Tryd.prog Tryd.f6 false true false false) := by
  obtain ⟨places, hx⟩ := reads os enc
  refine returnsInHanded_of_row (C := Tryd.checked) (s := OpenSpec.ofChange Rows.digestTreeSpec) own started (by kernel_rfl) Tryd.func6
    (witness_row_atRef (enc := enc) (C := Tryd.checked) false (laidWorld os) #[.slice none 0 0] rfl (by kernel_rfl) (by kernel_rfl) (by kernel_rfl)
      (OpenSpec.preRow_of_cond 8 hx (by kernel_rfl) (fun k hk => by cases hk) (by kernel_rfl) (laidWorld_met3 os _))) ?_
  intro W base args ds gs before hval hW _ hcond _ hL hsh _
  exact contract H enc W base args ds gs before hval hW hL

theorem said : Rows.DigestTreeSaid :=
  OpenClaim.holds_of_cond 6 Tryd.f6 rfl rfl rfl rfl rfl rfl rfl ⟨rfl, rfl, rfl, rfl, rfl⟩ rfl rfl rfl rfl rfl (by kernel_rfl) Tryd.func6 (by kernel_rfl)
    (of_decide_eq_true (by kernel_rfl)) (by unfold Func.isWrapper; first | (rw [if_pos (by decide +kernel)]; kernel_rfl) | (rw [if_neg (by decide +kernel)]; exact ⟨rfl, rfl⟩))
    (fun os started H enc _ F => by rw [OpenClaim.pre_eq_preRow]; exact lifted os started H enc F)

theorem plain (f : FuncId) (fn : Func) (hf : Tryd.pinned.checked.prog.funcNamed "barcarole/barcarolelaw05.DigestTree" = some f) (hfn : Tryd.pinned.checked.prog.funcs[f]? = some fn) :
    false = Tryd.pinned.checked.prog.looks [] ∧ ∀ (j : Nat) t, fn.params[j]? = some t → Tryd.pinned.checked.prog.wantsStandIn t = false := by
  obtain rfl : f = 6 := Option.some.inj ((show Tryd.prog.funcNamed "barcarole/barcarolelaw05.DigestTree" = some 6 by kernel_rfl).symm.trans hf) |>.symm
  obtain rfl : fn = Tryd.f6 := (Option.some.inj (Tryd.func6.symm.trans hfn)).symm
  refine ⟨by kernel_rfl, fun j t ht => ?_⟩
  rw [Tryd.params6] at ht
  have ht' : t = 24 := by
    have := Array.mem_of_getElem? ht
    simp at this
    first | omega | (rcases this with h | h | h | h | h | h | h | h <;> simp [h]) | (rcases this with h | h | h | h | h | h | h <;> simp [h]) | (rcases this with h | h | h | h | h | h <;> simp [h]) | (rcases this with h | h | h | h | h <;> simp [h]) | (rcases this with h | h | h | h <;> simp [h]) | (rcases this with h | h | h <;> simp [h]) | (rcases this with h | h <;> simp [h])
  rcases ht' with rfl
  · exact (show Tryd.prog.wantsStandIn 24 = false by kernel_rfl)

/-- The statement. -/
theorem card : Rows.DigestTreeCardSaid :=
  Claim7.holds_tied_plain_at .later [] _ _ _ _ said (fun _ h => by cases h) (by kernel_rfl) (fun _ h => by cases h) digestTree_row_tie rfl ⟨rfl, rfl⟩ (by kernel_rfl) rfl plain (by kernel_rfl)
end Go.Proofs.YtpplpnmammpkpaaDoor.digestTree
