/-
  MoneyParts: the parts of an amount add up to it; each is near the exact one and has its sign; a weight 0 gets nothing, and a greater weight not less: for any int and any slice of ints.
  Conditions: the package variables that the row lists hold what the program's text lays.
-/
import Derived.Test.YtanncjkkaeeiaaaDoorMonU
import Derived.Deep.LoopGhost
import Derived.Deep.Light
import Derived.Test.YtanncjkkaeeiaaaDoorCards
import Derived.Test.YtanncjkkaeeiaaaDoorTie
import Derived.Deep.DeepCutAuto
namespace Go.Proofs.YtanncjkkaeeiaaaDoor.moneyParts
open Go.RowKit Go.Sort
open Go.RowKit (Below)
set_option linter.unusedVariables false

set_option maxHeartbeats 400000 in
theorem lsize_any (x : Int) (w : World) (h1 : -9223372036854775807 ≤ x) (h2 : x ≤ 9223372036854775807) :
    Calls Tryd.prog 17 #[.int .i64 x] w fun e w' => e = .returned (.int .i64 x.natAbs) ∧ w = w' := by
  by_cases hx : x < 0
  · have hm : max x (-x) = -x := by omega
    go_enter Tryd.func17, Tryd.ntmps17
    go_wp2
    go_ret
    exact ⟨ret_int (by omega), rfl⟩
  · have hm : max x (-x) = x := by omega
    go_enter Tryd.func17, Tryd.ntmps17
    go_wp2
    go_ret
    exact ⟨ret_int (by omega), rfl⟩

theorem _root_.Go.Proofs.YtanncjkkaeeiaaaDoor.Sl.at_ {w : World} {b o : Nat} {xs : List Int} (h : Sl w (some ⟨b, o, none⟩) xs) {k : Nat} (hk : k < xs.length) : w.cell? ⟨b, o + k, none⟩ = some (.int .i64 (gd xs k)) := by
  obtain ⟨b', o', e, hc⟩ := h k hk
  injection e with e
  injection e with e1 e2
  subst e1 e2
  exact hc
theorem lsize_still (x : Int) (w : World) (h1 : -9223372036854775807 ≤ x) (h2 : x ≤ 9223372036854775807) :
    Calls Tryd.prog 17 #[.int .i64 x] w fun e w' => e = .returned (.int .i64 x.natAbs) ∧ w' = w := (lsize_any x w h1 h2).mono fun _ _ ⟨he, hw⟩ => ⟨he, hw.symm⟩
theorem quiet_add_left' {P : Program} {f : FuncId} {args : Array Value} {w : World} {a n : Nat} {v : Value}
    (h : Calls P f args (w.drewN (a + n)) fun e w' => e = .returned v ∧ w.drewN (a + n) = w') : Calls P f args (w.drewN (a + n)) fun e w'' => e = .returned v ∧ ∃ m, w'' = w.drewN (a + m) :=
  h.mono fun _ _ ⟨he, hm⟩ => ⟨he, n, hm.symm⟩

set_option maxRecDepth 100000 in
set_option maxHeartbeats 1000000 in
theorem bad1 (c : Int) (ic : I64 c) (lA : Option Addr) (lC : Nat) (l : List Int) (zl : l.length ≤ 9223372036854775807) (jl : ∀ x ∈ l, I64 x) (w : World) (hs : St w) (sl : Sl w lA l) (hc : am c = false) :
    Calls Tryd.prog 6 #[.int .i64 c, .slice lA l.length lC] w fun e w' => e = .returned (.bool true) ∧ Below w.heap.size w w' := by
  have HS := Lib.hid hs
  clear hs
  have HL := Lib.hid sl
  clear sl
  have HC := Lib.hid hc
  clear hc
  go_enter Tryd.func6, Tryd.ntmps6
  go_wp2_with fail
  refine (head_any _ HS.out).mono ?_
  rintro e w1 ⟨rfl, b1⟩
  have HL1 := Lib.hid (HL.out.below b1)
  clear HL
  go_wp2_with fail
  refine (split_bad c lA lC l _ (by omega) (by simp [HC.out]) HL1.out).mono ?_
  rintro e w' ⟨rfl, rfl⟩
  go_wp2_with fail
  refine (refwhole_any _ _ _ _ (by omega) HL1.out).mono ?_
  rintro e w' ⟨rfl, rfl⟩
  go_wp2_with fail
  refine (refam_b _ false HC.out _).mono ?_
  rintro e w' ⟨rfl, rfl⟩
  go_wp2_with fail
  go_ret
  exact ⟨rfl, b1⟩

set_option maxRecDepth 100000 in
set_option maxHeartbeats 1000000 in
theorem bad2 (c : Int) (ic : I64 c) (lA : Option Addr) (lC : Nat) (l : List Int) (zl : l.length ≤ 9223372036854775807) (jl : ∀ x ∈ l, I64 x) (w : World) (hs : St w) (sl : Sl w lA l) (hc : am c = true) (hw : wts l = false) :
    Calls Tryd.prog 6 #[.int .i64 c, .slice lA l.length lC] w fun e w' => e = .returned (.bool true) ∧ Below w.heap.size w w' := by
  have HS := Lib.hid hs
  clear hs
  have HL := Lib.hid sl
  clear sl
  have HC := Lib.hid hc
  clear hc
  have HW := Lib.hid hw
  clear hw
  go_enter Tryd.func6, Tryd.ntmps6
  go_wp2_with fail
  refine (head_any _ HS.out).mono ?_
  rintro e w1 ⟨rfl, b1⟩
  have HL1 := Lib.hid (HL.out.below b1)
  clear HL
  go_wp2_with fail
  refine (split_bad c lA lC l _ (by omega) (by simp [HC.out, HW.out]) HL1.out).mono ?_
  rintro e w' ⟨rfl, rfl⟩
  go_wp2_with fail
  refine (refwhole_any _ _ _ _ (by omega) HL1.out).mono ?_
  rintro e w' ⟨rfl, rfl⟩
  rw [whole_no HW.out]
  go_wp2_with fail
  refine (refam_b _ true HC.out _).mono ?_
  rintro e w' ⟨rfl, rfl⟩
  go_wp2_with fail
  go_ret
  exact ⟨rfl, b1⟩

set_option maxRecDepth 100000 in
set_option maxHeartbeats 4000000 in
theorem good (c : Int) (ic : I64 c) (lA : Option Addr) (lC : Nat) (l : List Int) (zl : l.length ≤ 9223372036854775807) (jl : ∀ x ∈ l, I64 x) (w : World) (hs : St w) (sl : Sl w lA l) (hc : am c = true) (hw : wts l = true) :
    Calls Tryd.prog 6 #[.int .i64 c, .slice lA l.length lC] w fun e w' => e = .returned (.bool true) ∧ Below w.heap.size w w' := by
  have HS := Lib.hid hs
  clear hs
  have HL := Lib.hid sl
  clear sl
  have hl64 := (wts_iff.1 hw).1
  have hx := (wts_iff.1 hw).2.1
  have hW := (wts_iff.1 hw).2.2
  have hWb : l.sum ≤ 64000000 := by
    have := (sum_bd (m := 1000000) l fun x h => by have := hx x h; omega).2
    omega
  have bc := am_bd.1 hc
  obtain ⟨bc1, bc2⟩ := bc
  have HPF := Lib.hid (pf c l ⟨bc1, bc2⟩ hw)
  have HWH := Lib.hid (whole_pos hw).2
  have hw0 : (l.sum == 0) = false := by rw [beq_eq_false_iff_ne]; omega
  have HC := Lib.hid hc
  clear hc
  have HW := Lib.hid hw
  clear hw
  have HX := Lib.hid hx
  clear hx
  obtain ⟨V, hV⟩ : ∃ V, V = parts c l := ⟨_, rfl⟩
  have HV := Lib.hid hV
  clear hV
  go_enter Tryd.func6, Tryd.ntmps6
  go_wp2_with fail
  refine (head_any _ HS.out).mono ?_
  rintro e w1 ⟨rfl, b1⟩
  have HL1 := Lib.hid (HL.out.below b1)
  clear HL
  go_wp2_with fail
  refine (split_ok c lA lC l _ HC.out HW.out HL1.out).mono ?_
  rintro e w2 ⟨pb, rfl, hpb, hrow, hb⟩
  have b2 := on_below b1 hb
  have HL2 := Lib.hid (HL1.out.below hb)
  have HR := Lib.hid (show Row w2 pb l.length (gd V) by rw [HV.out]; exact hrow.congr fun j hj => (gd_parts c l hj).symm)
  replace HPF := Lib.hid (show PF c l V by rw [HV.out]; exact HPF.out)
  clear hb hrow HL1 hpb
  go_wp2_with fail
  refine (refwhole_any _ _ _ _ (by omega) HL2.out).mono ?_
  rintro e w' ⟨rfl, rfl⟩
  rw [HWH.out]
  go_wp2_with fail
  refine (refam_b _ true HC.out _).mono ?_
  rintro e w' ⟨rfl, rfl⟩
  go_wp2_with fail
  have HLE := Lib.hid HPF.out.len
  go_loopg [9, 10] l.length (fun g t i wr => ∃ k : Nat, k ≤ l.length ∧ g = l.length - k ∧ i = .int .i64 k ∧ t = .int .i64 (V.take k).sum ∧ ∃ q, wr = w2.drewN q)
  case atStart => exact ⟨0, Nat.zero_le _, rfl, rfl, rfl, 0, rfl⟩
  case round =>
    obtain ⟨i, hi, rfl, rfl, rfl, q, rfl⟩ := hrel
    by_cases hlt : i < l.length
    · obtain ⟨ob, oo, rfl, hcw⟩ := HL2.out i hlt
      have hcv : w2.cell? ⟨pb, i, none⟩ = some (.int .i64 (gd V i)) := (HR.out i hlt).1
      have ⟨v1, v2⟩ := HPF.out.f1 i hlt
      have HA := Lib.hid (am_iff.2 (And.intro v1 v2))
      have hxi := HX.out _ (getD_mem hlt)
      obtain ⟨x1, x2⟩ := hxi
      have hd : wrap64 (wrap64 (gd V i * l.sum) - wrap64 (c * gd l i)) < l.sum ∧ -(wrap64 (wrap64 (gd V i * l.sum) - wrap64 (c * gd l i))) < l.sum := by
        have m1 := mul_bd ⟨v1, v2⟩ (show Bd l.sum from ⟨by omega, by omega⟩)
        have m2 := mul_bd ⟨bc1, bc2⟩ (show Bd (gd l i) from ⟨by omega, by omega⟩)
        rw [show wrap64 (gd V i * l.sum) = gd V i * l.sum from IntWalk.wrap64_in _ ⟨by omega, by omega⟩, show wrap64 (c * gd l i) = c * gd l i from IntWalk.wrap64_in _ ⟨by omega, by omega⟩, show wrap64 (gd V i * l.sum - c * gd l i) = gd V i * l.sum - c * gd l i from IntWalk.wrap64_in _ ⟨by omega, by omega⟩]
        exact HPF.out.f4 i hlt
      have HD := Lib.hid hd
      clear hd
      have hsb : -64000000000 ≤ (V.take i).sum ∧ (V.take i).sum ≤ 64000000000 := by
        have := take_bd (m := 1000000000) V 64 (by omega) (by rw [HLE.out]; omega) (fun x hx => by
          obtain ⟨j, hj, rfl⟩ := List.getElem_of_mem hx
          have := HPF.out.f1 j (by rw [← HLE.out]; exact hj)
          rwa [gd_at hj] at this) i
        omega
      obtain ⟨sb1, sb2⟩ := hsb
      have HST := Lib.hid (sum_step V i (by rw [HLE.out]; exact hlt))
      have HF2 := Lib.hid (HPF.out.f2 i hlt)
      have HF3 := Lib.hid (HPF.out.f3 i hlt)
      go_upto_region 12 with fail
      go_cut [95] from 48 to 174 (fun s wx => s = .bool false ∧ wx = w2.drewN q)
      case first =>
        have sgn3 : 0 < c ∨ (0 ≤ c ∧ c ≤ 0) ∨ c < 0 := by omega
        rcases sgn3 with sg | ⟨sg, sg'⟩ | sg <;> by_cases hx0 : gd l i = 0
        all_goals
          have g1 := HF2.out.1
          have g2 := HF2.out.2
          first
            | (have hv00 := HF3.out hx0
               have hvz : (gd V i != 0) = false := by rw [bne_eq_false_iff_eq]; exact hv00
               have hxz : (gd l i == 0) = true := by rw [beq_iff_eq]; exact hx0
               have z1 : gd V i ≤ 0 := by omega
               have z2 : 0 ≤ gd V i := by omega
               clear hv00 hx0 g1 g2)
            | (have hxz : (gd l i == 0) = false := by simpa using hx0
               first | replace g1 := g1 (by omega) | clear g1
               first | replace g2 := g2 (by omega) | clear g2
               clear hx0)
          go_wp2_with (go_at_call 12; refine (refam_b _ true HA.out _).mono ?_; rintro e w' ⟨rfl, rfl⟩)
          go_meet
          exact ⟨by first | rfl | (simp; omega), rfl⟩
      case rest =>
        obtain ⟨rfl, rfl⟩ := hcut
        go_wp2_with fail
        go_quiet (fail)
        have hd := HD.out
        clear HD
        generalize wrap64 (wrap64 (gd V i * l.sum) - wrap64 (c * gd l i)) = d at *
        obtain ⟨hd1, hd2⟩ := hd
        go_wp2_with fail
        go_loopg [12] i (fun g kk wr => ∃ k : Nat, k ≤ i ∧ g = i - k ∧ kk = .int .i64 k ∧ ∃ q, wr = w2.drewN q)
        case atStart => exact ⟨0, Nat.zero_le _, rfl, rfl, _, rfl⟩
        case round =>
          obtain ⟨k, hk, rfl, rfl, q', rfl⟩ := hrel
          by_cases hki : k < i
          · have hcwk := HL2.out.at_ (k := k) (by omega)
            have hcvk : w2.cell? ⟨pb, k, none⟩ = some (.int .i64 (gd V k)) := (HR.out k (by omega)).1
            have ⟨u1, u2⟩ := HPF.out.f1 k (by omega)
            have hkI : (k : Int) < l.length := by omega
            have f5a := HPF.out.f5 i k hlt (by omega)
            have f5b := HPF.out.f5 k i (by omega) hlt
            go_upto_region 20 with fail
            go_cut [168] from 118 to 168 (fun s wx => s = .bool false ∧ ∃ q, wx = w2.drewN q)
            case first =>
              replace hcwk : (w2.drewN q').cell? ⟨ob, oo + k, none⟩ = some (.int .i64 (gd l k)) := hcwk
              replace hcvk : (w2.drewN q').cell? ⟨pb, k, none⟩ = some (.int .i64 (gd V k)) := hcvk
              replace hcw : (w2.drewN q').cell? ⟨ob, oo + i, none⟩ = some (.int .i64 (gd l i)) := hcw
              replace hcv : (w2.drewN q').cell? ⟨pb, i, none⟩ = some (.int .i64 (gd V i)) := hcv
              have HQ := Lib.hid (fun n => show ∃ q, (w2.drewN q').drewN n = w2.drewN q from ⟨q' + n, World.drewN_drewN w2 q' n⟩)
              generalize w2.drewN q' = wq at *
              have tri : gd l k < gd l i ∨ gd l i < gd l k ∨ (gd l k ≤ gd l i ∧ gd l i ≤ gd l k) := by omega
              rcases tri with tr | tr | ⟨tr, tr'⟩
              · replace f5a := f5a tr
                clear f5b
                have hg1 : decide (gd l k < gd l i) = true := by simpa using tr
                have hg2 : decide (gd l i < gd l k) = false := by simp; omega
                have hg3 : decide ((gd V i).natAbs < (gd V k).natAbs) = false := by simp; omega
                go_quiet ((go_at_call 17; exact quiet_left (lsize_any _ _ (by omega) (by omega))))
                go_wp2
                go_meet
                exact ⟨by first | rfl | (simp; omega), HQ.out _⟩
              · replace f5b := f5b tr
                clear f5a
                have hg1 : decide (gd l k < gd l i) = false := by simp; omega
                have hg2 : decide (gd l i < gd l k) = true := by simpa using tr
                have hg3 : decide ((gd V k).natAbs < (gd V i).natAbs) = false := by simp; omega
                go_quiet ((go_at_call 17; exact quiet_left (lsize_any _ _ (by omega) (by omega))))
                go_wp2
                go_meet
                exact ⟨by first | rfl | (simp; omega), HQ.out _⟩
              · clear f5a f5b
                have hg1 : decide (gd l k < gd l i) = false := by simp; omega
                have hg2 : decide (gd l i < gd l k) = false := by simp; omega
                go_quiet ((go_at_call 17; exact quiet_left (lsize_any _ _ (by omega) (by omega))))
                go_wp2
                go_meet
                exact ⟨rfl, HQ.out _⟩
            case rest =>
              clear f5a f5b
              obtain ⟨rfl, q2, rfl⟩ := hcut
              go_wp2
              go_roundg (i - (k + 1))
              case measure => go_light; omega
              case rel => go_light; exact ⟨k + 1, by omega, rfl, by simp, q2, rfl⟩
          · go_wp2
            go_roundg (l.length - (i + 1))
            case measure => go_light; omega
            case rel => go_light; exact ⟨i + 1, by omega, rfl, by simp, by rw [HST.out], _, rfl⟩
    · go_wp2
      go_ret
      exact ⟨ret_bool (by rw [sum_all V i (by rw [HLE.out]; exact hlt), HPF.out.f6]; simp), below_drewN' b2 q⟩

theorem walk (c : Int) (ic : I64 c) (lA : Option Addr) (lC : Nat) (l : List Int) (zl : l.length ≤ 9223372036854775807) (jl : ∀ x ∈ l, I64 x) (w : World) (hs : St w) (sl : Sl w lA l) :
    Calls Tryd.prog 6 #[.int .i64 c, .slice lA l.length lC] w fun e w' => e = .returned (.bool true) ∧ Below w.heap.size w w' := by
  cases hc : am c with
  | false => exact bad1 c ic lA lC l zl jl w hs sl hc
  | true =>
    cases hw : wts l with
    | false => exact bad2 c ic lA lC l zl jl w hs sl hc hw
    | true => exact good c ic lA lC l zl jl w hs sl hc hw

/-! ### The row and the card -/
open Go.ChangeShapes Go.WideShapes Go.ChangeAt
open Go.ChangeMaps (open_string shut_string)

set_option maxRecDepth 100000 in
theorem contract (H : Type) (enc : TypeId × Value → H) (W : World) (base : Nat) (args : Array Value) (ds gs : List (DataW H)) (before : List MemPlace)
    (hval : ∀ (j : Nat) t v, Tryd.f6.params[j]? = some t → args[j]? = some v → Value.okWide Tryd.prog W .any base t v)
    (hW : DataW.Whole enc Tryd.prog Tryd.f6.params.toList Rows.moneyPartsSpec.vars false W args.toList ds gs before) (hL : laidMetH Tryd.prog laid4 W) (hsh : W.ShapedOpen Tryd.prog) :
    Calls Tryd.prog 6 args W fun e W' => ∃ v, e = .returned v ∧ Rows.moneyPartsSpec.post enc Tryd.prog Tryd.f6 false true false false W args v W' := by
  have hW' := hW
  have hold : ∀ q ∈ before, decide (q.block < W.heap.size) = true := fun q hq => by simpa using hW.lt q hq
  obtain ⟨p, q, hA0, hV, rfl, hfz, hnd⟩ := hW
  have hA : DataW.TrodAll enc Tryd.prog W 0 (fun _ => true) true Tryd.f6.params.toList args.toList ds p := hA0
  rw [Tryd.params6] at hA hval
  obtain ⟨v0, vs0, d0, ds0, p0, q0, hargs, rfl, rfl, h0, r0⟩ := trodAll_cons hA
  obtain ⟨v1, vs1, d1, ds1, p1, q1, rfl, rfl, rfl, h1, r1⟩ := trodAll_cons r0
  obtain ⟨rfl, rfl, rfl⟩ := trodAll_nil r1
  obtain rfl : args = #[v0, v1] := Array.toList_inj.1 hargs
  obtain ⟨rfl, rfl⟩ := trodVars_none hV
  obtain ⟨c, rfl, rfl, rfl, wc⟩ := open_int Tryd.underlying3 (hval 0 3 v0 rfl rfl) h0
  obtain ⟨lA, lC, l, rfl, sl, zl, jl, shutl⟩ := open_list (hval 1 26 v1 rfl rfl) h1
  clear hA0
  refine (walk c (wf_i wc) lA lC l zl jl W (st_of4 hL) sl).mono fun e W' ⟨he, bel⟩ => ?_
  subst he
  exact ⟨_, rfl, _, _, _, [], _, [], hW', trodAll_mk1 (shut_bool Tryd.underlying4 _), (trodAll_cons_mk (shut_int Tryd.underlying3 wc) (trodAll_cons_mk (shutl W' (fun b => decide (b < W.heap.size)) bel (fun q hq => hold q (by simp [hq]))) trodAll_mk0)), rfl, bel.frame _, fun h => by cases h⟩

theorem reads (os : Os) {H : Type} (enc : TypeId × Value → H) : ∃ places, DataW.whole enc Tryd.prog ((laidWorld os).forCall (fun _ _ => 0) ⟨#[], #[.int .i64 0, .slice none 0 0], []⟩).memory Tryd.f6.params.toList Rows.moneyPartsSpec.vars false (#[.int .i64 0, .slice none 0 0] : Array Value).toList 8 = some ([.lit (.int .i64 0), .nil], [], places) :=
  ⟨[], by kernel_rfl⟩

set_option maxRecDepth 100000 in
theorem lifted (os : Os) (started : os.Started) (H : Type) (enc : TypeId × Value → H) (F : Stop.Interp) :
    ReturnsInHanded {} Tryd.checked os 6 .any ((OpenSpec.ofChange Rows.moneyPartsSpec).preRow enc Tryd.prog Tryd.f6 Rows.moneyPartsRow.domain false Rows.moneyPartsRow.laid) (((OpenSpec.ofChange Rows.moneyPartsSpec).at F).post enc Tryd.prog Tryd.f6 false true false false) := by
  obtain ⟨places, hx⟩ := reads os enc
  refine returnsInHanded_of_row (C := Tryd.checked) (s := OpenSpec.ofChange Rows.moneyPartsSpec) own started (by kernel_rfl) Tryd.func6
    (witness_row_atRef (enc := enc) (C := Tryd.checked) false (laidWorld os) #[.int .i64 0, .slice none 0 0] rfl (by kernel_rfl) (by kernel_rfl) (by kernel_rfl)
      (OpenSpec.preRow_of_cond 8 hx (by kernel_rfl) (fun k hk => by cases hk) (by kernel_rfl) (laidWorld_met4 os _))) ?_
  intro W base args ds gs before hval hW _ hcond _ hL hsh _
  exact contract H enc W base args ds gs before hval hW hL hsh

theorem said : Rows.MoneyPartsSaid :=
  OpenClaim.holds_of_cond 6 Tryd.f6 rfl rfl rfl rfl rfl rfl rfl ⟨rfl, rfl, rfl, rfl, rfl⟩ rfl rfl rfl rfl rfl (by kernel_rfl) Tryd.func6 (by kernel_rfl)
    (of_decide_eq_true (by kernel_rfl)) (by unfold Func.isWrapper; first | (rw [if_pos (by decide +kernel)]; kernel_rfl) | (rw [if_neg (by decide +kernel)]; exact ⟨rfl, rfl⟩))
    (fun os started H enc _ F => by rw [OpenClaim.pre_eq_preRow]; exact lifted os started H enc F)

theorem plain (f : FuncId) (fn : Func) (hf : Tryd.pinned.checked.prog.funcNamed "barcarole/barcarolelaw02.MoneyParts" = some f) (hfn : Tryd.pinned.checked.prog.funcs[f]? = some fn) :
    true = Tryd.pinned.checked.prog.looks [] ∧ ∀ (j : Nat) t, fn.params[j]? = some t → Tryd.pinned.checked.prog.wantsStandIn t = false := by
  obtain rfl : f = 6 := Option.some.inj ((show Tryd.prog.funcNamed "barcarole/barcarolelaw02.MoneyParts" = some 6 by kernel_rfl).symm.trans hf) |>.symm
  obtain rfl : fn = Tryd.f6 := (Option.some.inj (Tryd.func6.symm.trans hfn)).symm
  refine ⟨by kernel_rfl, fun j t ht => ?_⟩
  rw [Tryd.params6] at ht
  have ht' : t = 26 ∨ t = 3 := by
    have := Array.mem_of_getElem? ht
    simp at this
    first | omega | (rcases this with h | h | h | h | h <;> simp [h]) | (rcases this with h | h | h | h <;> simp [h]) | (rcases this with h | h | h <;> simp [h]) | (rcases this with h | h <;> simp [h])
  rcases ht' with rfl | rfl
  · exact (show Tryd.prog.wantsStandIn 26 = false by kernel_rfl)
  · exact (show Tryd.prog.wantsStandIn 3 = false by kernel_rfl)

/-- The statement. -/
theorem card : Rows.MoneyPartsCardSaid :=
  Claim7.holds_tied_plain_at .later [] _ _ _ _ said (fun _ h => by cases h) (by kernel_rfl) (fun _ h => by cases h) moneyParts_row_tie rfl ⟨rfl, rfl⟩ (by kernel_rfl) rfl plain (by kernel_rfl)
end Go.Proofs.YtanncjkkaeeiaaaDoor.moneyParts
