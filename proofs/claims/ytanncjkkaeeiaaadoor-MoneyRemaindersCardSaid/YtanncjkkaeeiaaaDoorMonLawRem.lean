/-
  MoneyRemainders: a part that was rounded away from zero has no smaller remainder than one that was not, and of equal ones the smaller index: for any int and any slice of ints.
  Conditions: the package variables that the row lists hold what the program's text lays.
-/
import Derived.Test.YtanncjkkaeeiaaaDoorMonU
import Derived.Deep.LoopGhost
import Derived.Deep.Light
import Derived.Test.YtanncjkkaeeiaaaDoorCards
import Derived.Test.YtanncjkkaeeiaaaDoorTie
import Derived.Deep.DeepCutAuto
namespace Go.Proofs.YtanncjkkaeeiaaaDoor.moneyRemainders
open Go.RowKit Go.Sort
open Go.RowKit (Below)
set_option linter.unusedVariables false

set_option maxHeartbeats 400000 in
theorem lsize_any (x : Int) (w : World) (h1 : -9223372036854775807 ≤ x) (h2 : x ≤ 9223372036854775807) :
    Calls Tryd.prog 17 #[.int .i64 x] w fun e w' => e = .returned (.int .i64 x.natAbs) ∧ w = w' := by
  by_cases hx : x < 0
  · have hm : max x (-x) = -x := by omega
    go_enter Tryd.func17, Tryd.ntmps17
    go_wp2
    go_ret
    exact ⟨ret_int (by omega), rfl⟩
  · have hm : max x (-x) = x := by omega
    go_enter Tryd.func17, Tryd.ntmps17
    go_wp2
    go_ret
    exact ⟨ret_int (by omega), rfl⟩

theorem _root_.Go.Proofs.YtanncjkkaeeiaaaDoor.Sl.at_ {w : World} {b o : Nat} {xs : List Int} (h : Sl w (some ⟨b, o, none⟩) xs) {k : Nat} (hk : k < xs.length) : w.cell? ⟨b, o + k, none⟩ = some (.int .i64 (gd xs k)) := by
  obtain ⟨b', o', e, hc⟩ := h k hk
  injection e with e
  injection e with e1 e2
  subst e1 e2
  exact hc
theorem ro (c : Int) (ws : List Int) (hw : wts ws = true) {i k : Nat} (hi : i < ws.length) (hk : k < ws.length)
    (h1 : c.natAbs * gd ws i / ws.sum < part c.natAbs ws i) (h2 : part c.natAbs ws k = c.natAbs * gd ws k / ws.sum) :
    (c.natAbs : Int) * gd ws k % ws.sum ≤ c.natAbs * gd ws i % ws.sum ∧ ((c.natAbs : Int) * gd ws i % ws.sum = c.natAbs * gd ws k % ws.sum → i ≤ k) := by
  have h := rem_order c ws hw hi hk h1 h2
  refine ⟨Int.not_lt.1 h.1, fun e => ?_⟩
  by_cases hki : k < i
  · exact absurd ⟨e, hki⟩ h.2
  · omega
theorem quiet_add_left' {P : Program} {f : FuncId} {args : Array Value} {w : World} {a n : Nat} {v : Value}
    (h : Calls P f args (w.drewN (a + n)) fun e w' => e = .returned v ∧ w.drewN (a + n) = w') : Calls P f args (w.drewN (a + n)) fun e w'' => e = .returned v ∧ ∃ m, w'' = w.drewN (a + m) :=
  h.mono fun _ _ ⟨he, hm⟩ => ⟨he, n, hm.symm⟩

set_option maxRecDepth 100000 in
set_option maxHeartbeats 1000000 in
theorem bad1 (c : Int) (ic : I64 c) (lA : Option Addr) (lC : Nat) (l : List Int) (zl : l.length ≤ 9223372036854775807) (jl : ∀ x ∈ l, I64 x) (w : World) (hs : St w) (sl : Sl w lA l) (hc : am c = false) :
    Calls Tryd.prog 7 #[.int .i64 c, .slice lA l.length lC] w fun e w' => e = .returned (.bool true) ∧ Below w.heap.size w w' := by
  have HS := Lib.hid hs
  clear hs
  have HL := Lib.hid sl
  clear sl
  have HC := Lib.hid hc
  clear hc
  go_enter Tryd.func7, Tryd.ntmps7
  go_wp2_with fail
  refine (head_any _ HS.out).mono ?_
  rintro e w1 ⟨rfl, b1⟩
  have HL1 := Lib.hid (HL.out.below b1)
  clear HL
  go_wp2_with fail
  refine (split_bad c lA lC l _ (by omega) (by simp [HC.out]) HL1.out).mono ?_
  rintro e w' ⟨rfl, rfl⟩
  go_wp2_with fail
  refine (refwhole_any _ _ _ _ (by omega) HL1.out).mono ?_
  rintro e w' ⟨rfl, rfl⟩
  go_wp2_with fail
  refine (refam_b _ false HC.out _).mono ?_
  rintro e w' ⟨rfl, rfl⟩
  go_wp2_with fail
  go_ret
  exact ⟨rfl, b1⟩

set_option maxRecDepth 100000 in
set_option maxHeartbeats 1000000 in
theorem bad2 (c : Int) (ic : I64 c) (lA : Option Addr) (lC : Nat) (l : List Int) (zl : l.length ≤ 9223372036854775807) (jl : ∀ x ∈ l, I64 x) (w : World) (hs : St w) (sl : Sl w lA l) (hc : am c = true) (hw : wts l = false) :
    Calls Tryd.prog 7 #[.int .i64 c, .slice lA l.length lC] w fun e w' => e = .returned (.bool true) ∧ Below w.heap.size w w' := by
  have HS := Lib.hid hs
  clear hs
  have HL := Lib.hid sl
  clear sl
  have HC := Lib.hid hc
  clear hc
  have HW := Lib.hid hw
  clear hw
  go_enter Tryd.func7, Tryd.ntmps7
  go_wp2_with fail
  refine (head_any _ HS.out).mono ?_
  rintro e w1 ⟨rfl, b1⟩
  have HL1 := Lib.hid (HL.out.below b1)
  clear HL
  go_wp2_with fail
  refine (split_bad c lA lC l _ (by omega) (by simp [HC.out, HW.out]) HL1.out).mono ?_
  rintro e w' ⟨rfl, rfl⟩
  go_wp2_with fail
  refine (refwhole_any _ _ _ _ (by omega) HL1.out).mono ?_
  rintro e w' ⟨rfl, rfl⟩
  rw [whole_no HW.out]
  go_wp2_with fail
  refine (refam_b _ true HC.out _).mono ?_
  rintro e w' ⟨rfl, rfl⟩
  go_wp2_with fail
  go_ret
  exact ⟨rfl, b1⟩

set_option maxRecDepth 100000 in
set_option maxHeartbeats 4000000 in
theorem good (c : Int) (ic : I64 c) (lA : Option Addr) (lC : Nat) (l : List Int) (zl : l.length ≤ 9223372036854775807) (jl : ∀ x ∈ l, I64 x) (w : World) (hs : St w) (sl : Sl w lA l) (hc : am c = true) (hw : wts l = true) :
    Calls Tryd.prog 7 #[.int .i64 c, .slice lA l.length lC] w fun e w' => e = .returned (.bool true) ∧ Below w.heap.size w w' := by
  have HS := Lib.hid hs
  clear hs
  have HL := Lib.hid sl
  clear sl
  have hl64 := (wts_iff.1 hw).1
  have hx := (wts_iff.1 hw).2.1
  have hW := (wts_iff.1 hw).2.2
  have hWb : l.sum ≤ 64000000 := by
    have := (sum_bd (m := 1000000) l fun x h => by have := hx x h; omega).2
    omega
  have bc := am_bd.1 hc
  obtain ⟨bc1, bc2⟩ := bc
  have HPF := Lib.hid (pf c l ⟨bc1, bc2⟩ hw)
  have HWH := Lib.hid (whole_pos hw).2
  have HRO := Lib.hid (fun i k => ro c l hw (i := i) (k := k))
  have hw0 : (l.sum == 0) = false := by rw [beq_eq_false_iff_ne]; omega
  have HC := Lib.hid hc
  clear hc
  have HW := Lib.hid hw
  clear hw
  have HX := Lib.hid hx
  clear hx
  obtain ⟨V, hV⟩ : ∃ V, V = parts c l := ⟨_, rfl⟩
  have HV := Lib.hid hV
  clear hV
  go_enter Tryd.func7, Tryd.ntmps7
  go_wp2_with fail
  refine (head_any _ HS.out).mono ?_
  rintro e w1 ⟨rfl, b1⟩
  have HL1 := Lib.hid (HL.out.below b1)
  clear HL
  go_wp2_with fail
  refine (split_ok c lA lC l _ HC.out HW.out HL1.out).mono ?_
  rintro e w2 ⟨pb, rfl, hpb, hrow, hb⟩
  have b2 := on_below b1 hb
  have HL2 := Lib.hid (HL1.out.below hb)
  have HR := Lib.hid (show Row w2 pb l.length (gd V) by rw [HV.out]; exact hrow.congr fun j hj => (gd_parts c l hj).symm)
  replace HPF := Lib.hid (show PF c l V by rw [HV.out]; exact HPF.out)
  clear hb hrow HL1 hpb
  go_wp2_with fail
  refine (refwhole_any _ _ _ _ (by omega) HL2.out).mono ?_
  rintro e w' ⟨rfl, rfl⟩
  rw [HWH.out]
  go_wp2_with (go_at_call 12; refine (refam_b _ true HC.out _).mono ?_; rintro e w' ⟨rfl, rfl⟩)
  go_loopg [9] l.length (fun g i wr => ∃ k : Nat, k ≤ l.length ∧ g = l.length - k ∧ i = .int .i64 k ∧ ∃ q, wr = w2.drewN q)
  case atStart => exact ⟨0, Nat.zero_le _, rfl, rfl, 0, rfl⟩
  case round =>
    obtain ⟨i, hi, rfl, rfl, q, rfl⟩ := hrel
    by_cases hlt : i < l.length
    · obtain ⟨ob, oo, rfl, hcw0⟩ := HL2.out i hlt
      clear hcw0
      go_wp2
      go_loopg [10] l.length (fun g kk wr => ∃ k : Nat, k ≤ l.length ∧ g = l.length - k ∧ kk = .int .i64 k ∧ ∃ q, wr = w2.drewN q)
      case atStart => exact ⟨0, Nat.zero_le _, rfl, rfl, _, rfl⟩
      case round =>
        obtain ⟨k, hk, rfl, rfl, q', rfl⟩ := hrel
        by_cases hki : k < l.length
        · have hcw : (w2.drewN q').cell? ⟨ob, oo + i, none⟩ = some (.int .i64 (gd l i)) := HL2.out.at_ (k := i) hlt
          have hcwk : (w2.drewN q').cell? ⟨ob, oo + k, none⟩ = some (.int .i64 (gd l k)) := HL2.out.at_ (k := k) hki
          have hcv : (w2.drewN q').cell? ⟨pb, i, none⟩ = some (.int .i64 (gd V i)) := (HR.out i hlt).1
          have hcvk : (w2.drewN q').cell? ⟨pb, k, none⟩ = some (.int .i64 (gd V k)) := (HR.out k hki).1
          have HQ := Lib.hid (fun n => show ∃ q, (w2.drewN q').drewN n = w2.drewN q from ⟨q' + n, World.drewN_drewN w2 q' n⟩)
          generalize w2.drewN q' = wq at *
          have ⟨v1, v2⟩ := HPF.out.f1 i hlt
          have ⟨u1, u2⟩ := HPF.out.f1 k hki
          have HAI := Lib.hid (HPF.out.ab i hlt)
          have HAK := Lib.hid (HPF.out.ab k hki)
          have hxi := HX.out _ (getD_mem hlt)
          have hxk := HX.out _ (getD_mem hki)
          obtain ⟨x1, x2⟩ := hxi
          obtain ⟨y1, y2⟩ := hxk
          have qi := q_bd ⟨bc1, bc2⟩ ⟨x1, x2⟩ hW
          have qk := q_bd ⟨bc1, bc2⟩ ⟨y1, y2⟩ hW
          have ei : wrap64 ((c.natAbs : Int) * gd l i) = c.natAbs * gd l i := IntWalk.wrap64_in _ ⟨by omega, by omega⟩
          have ek : wrap64 ((c.natAbs : Int) * gd l k) = c.natAbs * gd l k := IntWalk.wrap64_in _ ⟨by omega, by omega⟩
          have tdi : ∀ v : Int, 0 ≤ v → v ≤ 1000000000000000 → 0 ≤ v / l.sum → v / l.sum ≤ 1000000000000000 → wrap64 (v.tdiv l.sum) = v / l.sum := fun v h1 h2 h3 h4 => by
            rw [Int.tdiv_eq_ediv_of_nonneg h1]; exact IntWalk.wrap64_in _ ⟨by omega, by omega⟩
          have tmi : ∀ v : Int, 0 ≤ v → 0 ≤ v % l.sum → v % l.sum < l.sum → v.tmod l.sum = v % l.sum := fun v h1 h2 h3 => Int.tmod_eq_emod_of_nonneg h1
          have DI := Lib.hid (show wrap64 ((wrap64 ((c.natAbs : Int) * gd l i)).tdiv l.sum) = c.natAbs * gd l i / l.sum by rw [ei]; exact tdi _ qi.1 qi.2.1 qi.2.2.1 qi.2.2.2.1)
          have DK := Lib.hid (show wrap64 ((wrap64 ((c.natAbs : Int) * gd l k)).tdiv l.sum) = c.natAbs * gd l k / l.sum by rw [ek]; exact tdi _ qk.1 qk.2.1 qk.2.2.1 qk.2.2.2.1)
          have MI := Lib.hid (show (wrap64 ((c.natAbs : Int) * gd l i)).tmod l.sum = c.natAbs * gd l i % l.sum by rw [ei]; exact tmi _ qi.1 qi.2.2.2.2.1 qi.2.2.2.2.2)
          have MK := Lib.hid (show (wrap64 ((c.natAbs : Int) * gd l k)).tmod l.sum = c.natAbs * gd l k % l.sum by rw [ek]; exact tmi _ qk.1 qk.2.2.2.2.1 qk.2.2.2.2.2)
          have HRIK := Lib.hid (show c.natAbs * gd l i / l.sum < ((gd V i).natAbs : Int) → ((gd V k).natAbs : Int) = c.natAbs * gd l k / l.sum → (c.natAbs : Int) * gd l k % l.sum ≤ c.natAbs * gd l i % l.sum ∧ ((c.natAbs : Int) * gd l i % l.sum = c.natAbs * gd l k % l.sum → i ≤ k) from fun h1 h2 => HRO.out i k hlt hki (by rw [← HAI.out]; exact h1) (by rw [← HAK.out]; exact h2))
          clear ei ek qi qk tdi tmi
          go_wp2_with fail
          go_quiet ((go_at_call 17; first | exact quiet_left (lsize_any _ _ (by omega) (by omega)) | exact quiet_add_left' (lsize_any _ _ (by omega) (by omega))))
          rw [DI.out]
          go_wp2_with fail
          go_quiet ((go_at_call 17; first | exact quiet_left (lsize_any _ _ (by omega) (by omega)) | exact quiet_add_left' (lsize_any _ _ (by omega) (by omega))))
          rw [DK.out]
          go_wp2_with fail
          go_quiet ((go_at_call 17; first | exact quiet_left (lsize_any _ _ (by omega) (by omega)) | exact quiet_add_left' (lsize_any _ _ (by omega) (by omega))))
          rw [MI.out]
          go_wp2_with fail
          go_quiet ((go_at_call 17; first | exact quiet_left (lsize_any _ _ (by omega) (by omega)) | exact quiet_add_left' (lsize_any _ _ (by omega) (by omega))))
          rw [MK.out]
          have hfin := HRIK.out
          clear DI DK MI MK HRIK HAI HAK
          generalize (c.natAbs : Int) * gd l i / l.sum = qi at *
          generalize (c.natAbs : Int) * gd l k / l.sum = qk at *
          generalize (c.natAbs : Int) * gd l i % l.sum = ri at *
          generalize (c.natAbs : Int) * gd l k % l.sum = rk at *
          generalize ((gd V i).natAbs : Int) = ai at *
          generalize ((gd V k).natAbs : Int) = ak at *
          by_cases hm : qi < ai
          · by_cases he : ak = qk
            · obtain ⟨f1, f2⟩ := hfin hm he
              by_cases hr : ri = rk
              · have f3 := f2 hr
                have g1 : decide (qi < ai) = true := by simpa using hm
                have g2 : (ak == qk) = true := by simpa using he
                have g3 : decide (ri < rk) = false := by simp; omega
                have g4 : (ri == rk) = true := by simpa using hr
                have g5 : decide ((k : Int) < (i : Int)) = false := by simp; omega
                clear hfin f1 f2 hm he hr
                go_wp2
                go_roundg (l.length - (k + 1))
                case measure => go_light; omega
                case rel => go_light; exact ⟨k + 1, by omega, rfl, by simp, HQ.out _⟩
              · have g1 : decide (qi < ai) = true := by simpa using hm
                have g2 : (ak == qk) = true := by simpa using he
                have g3 : decide (ri < rk) = false := by simp; omega
                have g4 : (ri == rk) = false := by simpa using hr
                clear hfin f1 f2 hm he hr
                go_wp2
                go_roundg (l.length - (k + 1))
                case measure => go_light; omega
                case rel => go_light; exact ⟨k + 1, by omega, rfl, by simp, HQ.out _⟩
            · have g1 : decide (qi < ai) = true := by simpa using hm
              have g2 : (ak == qk) = false := by simpa using he
              clear hfin hm he
              go_wp2
              go_roundg (l.length - (k + 1))
              case measure => go_light; omega
              case rel => go_light; exact ⟨k + 1, by omega, rfl, by simp, HQ.out _⟩
          · have g1 : decide (qi < ai) = false := by simpa using hm
            clear hfin hm
            go_wp2
            go_roundg (l.length - (k + 1))
            case measure => go_light; omega
            case rel => go_light; exact ⟨k + 1, by omega, rfl, by simp, HQ.out _⟩
        · go_wp2
          go_roundg (l.length - (i + 1))
          case measure => go_light; omega
          case rel => go_light; exact ⟨i + 1, by omega, rfl, by simp, q', rfl⟩
    · go_wp2
      go_ret
      exact ⟨rfl, below_drewN' b2 q⟩

theorem walk (c : Int) (ic : I64 c) (lA : Option Addr) (lC : Nat) (l : List Int) (zl : l.length ≤ 9223372036854775807) (jl : ∀ x ∈ l, I64 x) (w : World) (hs : St w) (sl : Sl w lA l) :
    Calls Tryd.prog 7 #[.int .i64 c, .slice lA l.length lC] w fun e w' => e = .returned (.bool true) ∧ Below w.heap.size w w' := by
  cases hc : am c with
  | false => exact bad1 c ic lA lC l zl jl w hs sl hc
  | true =>
    cases hw : wts l with
    | false => exact bad2 c ic lA lC l zl jl w hs sl hc hw
    | true => exact good c ic lA lC l zl jl w hs sl hc hw

/-! ### The row and the card -/
open Go.ChangeShapes Go.WideShapes Go.ChangeAt
open Go.ChangeMaps (open_string shut_string)

set_option maxRecDepth 100000 in
theorem contract (H : Type) (enc : TypeId × Value → H) (W : World) (base : Nat) (args : Array Value) (ds gs : List (DataW H)) (before : List MemPlace)
    (hval : ∀ (j : Nat) t v, Tryd.f7.params[j]? = some t → args[j]? = some v → Value.okWide Tryd.prog W .any base t v)
    (hW : DataW.Whole enc Tryd.prog Tryd.f7.params.toList Rows.moneyRemaindersSpec.vars false W args.toList ds gs before) (hL : laidMetH Tryd.prog laid4 W) (hsh : W.ShapedOpen Tryd.prog) :
    Calls Tryd.prog 7 args W fun e W' => ∃ v, e = .returned v ∧ Rows.moneyRemaindersSpec.post enc Tryd.prog Tryd.f7 false true false false W args v W' := by
  have hW' := hW
  have hold : ∀ q ∈ before, decide (q.block < W.heap.size) = true := fun q hq => by simpa using hW.lt q hq
  obtain ⟨p, q, hA0, hV, rfl, hfz, hnd⟩ := hW
  have hA : DataW.TrodAll enc Tryd.prog W 0 (fun _ => true) true Tryd.f7.params.toList args.toList ds p := hA0
  rw [Tryd.params7] at hA hval
  obtain ⟨v0, vs0, d0, ds0, p0, q0, hargs, rfl, rfl, h0, r0⟩ := trodAll_cons hA
  obtain ⟨v1, vs1, d1, ds1, p1, q1, rfl, rfl, rfl, h1, r1⟩ := trodAll_cons r0
  obtain ⟨rfl, rfl, rfl⟩ := trodAll_nil r1
  obtain rfl : args = #[v0, v1] := Array.toList_inj.1 hargs
  obtain ⟨rfl, rfl⟩ := trodVars_none hV
  obtain ⟨c, rfl, rfl, rfl, wc⟩ := open_int Tryd.underlying3 (hval 0 3 v0 rfl rfl) h0
  obtain ⟨lA, lC, l, rfl, sl, zl, jl, shutl⟩ := open_list (hval 1 26 v1 rfl rfl) h1
  clear hA0
  refine (walk c (wf_i wc) lA lC l zl jl W (st_of4 hL) sl).mono fun e W' ⟨he, bel⟩ => ?_
  subst he
  exact ⟨_, rfl, _, _, _, [], _, [], hW', trodAll_mk1 (shut_bool Tryd.underlying4 _), (trodAll_cons_mk (shut_int Tryd.underlying3 wc) (trodAll_cons_mk (shutl W' (fun b => decide (b < W.heap.size)) bel (fun q hq => hold q (by simp [hq]))) trodAll_mk0)), rfl, bel.frame _, fun h => by cases h⟩

theorem reads (os : Os) {H : Type} (enc : TypeId × Value → H) : ∃ places, DataW.whole enc Tryd.prog ((laidWorld os).forCall (fun _ _ => 0) ⟨#[], #[.int .i64 0, .slice none 0 0], []⟩).memory Tryd.f7.params.toList Rows.moneyRemaindersSpec.vars false (#[.int .i64 0, .slice none 0 0] : Array Value).toList 8 = some ([.lit (.int .i64 0), .nil], [], places) :=
  ⟨[], by kernel_rfl⟩

set_option maxRecDepth 100000 in
theorem lifted (os : Os) (started : os.Started) (H : Type) (enc : TypeId × Value → H) (F : Stop.Interp) :
    ReturnsInHanded {} Tryd.checked os 7 .any ((OpenSpec.ofChange Rows.moneyRemaindersSpec).preRow enc Tryd.prog Tryd.f7 Rows.moneyRemaindersRow.domain false Rows.moneyRemaindersRow.laid) (((OpenSpec.ofChange Rows.moneyRemaindersSpec).at F).post enc Tryd.prog Tryd.f7 false true false false) := by
  obtain ⟨places, hx⟩ := reads os enc
  refine returnsInHanded_of_row (C := Tryd.checked) (s := OpenSpec.ofChange Rows.moneyRemaindersSpec) own started (by kernel_rfl) Tryd.func7
    (witness_row_atRef (enc := enc) (C := Tryd.checked) false (laidWorld os) #[.int .i64 0, .slice none 0 0] rfl (by kernel_rfl) (by kernel_rfl) (by kernel_rfl)
      (OpenSpec.preRow_of_cond 8 hx (by kernel_rfl) (fun k hk => by cases hk) (by kernel_rfl) (laidWorld_met4 os _))) ?_
  intro W base args ds gs before hval hW _ hcond _ hL hsh _
  exact contract H enc W base args ds gs before hval hW hL hsh

theorem said : Rows.MoneyRemaindersSaid :=
  OpenClaim.holds_of_cond 7 Tryd.f7 rfl rfl rfl rfl rfl rfl rfl ⟨rfl, rfl, rfl, rfl, rfl⟩ rfl rfl rfl rfl rfl (by kernel_rfl) Tryd.func7 (by kernel_rfl)
    (of_decide_eq_true (by kernel_rfl)) (by unfold Func.isWrapper; first | (rw [if_pos (by decide +kernel)]; kernel_rfl) | (rw [if_neg (by decide +kernel)]; exact ⟨rfl, rfl⟩))
    (fun os started H enc _ F => by rw [OpenClaim.pre_eq_preRow]; exact lifted os started H enc F)

theorem plain (f : FuncId) (fn : Func) (hf : Tryd.pinned.checked.prog.funcNamed "barcarole/barcarolelaw02.MoneyRemainders" = some f) (hfn : Tryd.pinned.checked.prog.funcs[f]? = some fn) :
    true = Tryd.pinned.checked.prog.looks [] ∧ ∀ (j : Nat) t, fn.params[j]? = some t → Tryd.pinned.checked.prog.wantsStandIn t = false := by
  obtain rfl : f = 7 := Option.some.inj ((show Tryd.prog.funcNamed "barcarole/barcarolelaw02.MoneyRemainders" = some 7 by kernel_rfl).symm.trans hf) |>.symm
  obtain rfl : fn = Tryd.f7 := (Option.some.inj (Tryd.func7.symm.trans hfn)).symm
  refine ⟨by kernel_rfl, fun j t ht => ?_⟩
  rw [Tryd.params7] at ht
  have ht' : t = 26 ∨ t = 3 := by
    have := Array.mem_of_getElem? ht
    simp at this
    first | omega | (rcases this with h | h | h | h | h <;> simp [h]) | (rcases this with h | h | h | h <;> simp [h]) | (rcases this with h | h | h <;> simp [h]) | (rcases this with h | h <;> simp [h])
  rcases ht' with rfl | rfl
  · exact (show Tryd.prog.wantsStandIn 26 = false by kernel_rfl)
  · exact (show Tryd.prog.wantsStandIn 3 = false by kernel_rfl)

/-- The statement. -/
theorem card : Rows.MoneyRemaindersCardSaid :=
  Claim7.holds_tied_plain_at .later [] _ _ _ _ said (fun _ h => by cases h) (by kernel_rfl) (fun _ h => by cases h) moneyRemainders_row_tie rfl ⟨rfl, rfl⟩ (by kernel_rfl) rfl plain (by kernel_rfl)
end Go.Proofs.YtanncjkkaeeiaaaDoor.moneyRemainders
