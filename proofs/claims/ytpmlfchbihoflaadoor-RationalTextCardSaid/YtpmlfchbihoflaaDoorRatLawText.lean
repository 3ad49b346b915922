/-
  RationalText: the text of a number is parsed to it, and a string that is parsed is the text of the result: for any pair of ints and any string, of at most 1048576 values and letters together.
  Conditions: the package variables of the library that the row lists hold what the program's text lays.
-/
import Derived.Test.YtpmlfchbihoflaaDoorRatY
import Derived.Test.YtpmlfchbihoflaaDoorCards
import Derived.Test.YtpmlfchbihoflaaDoorTie
import Derived.Deep.DeepCutAuto
import Derived.Test.YtpmlfchbihoflaaDoorRatZ
namespace Go.Proofs.YtpmlfchbihoflaaDoor.rationalText
open Go.RowKit Go.Sort
open Go.RowKit (Below)
set_option linter.unusedVariables false

theorem box1 (w : World) (a b : Int) (t : TypeId) : Below w.heap.size w (w.alloc (.cells #[.int .i64 a, .int .i64 b] t)) ∧ Pr (w.alloc (.cells #[.int .i64 a, .int .i64 b] t)) w.heap.size a b :=
  ⟨(Below.refl _ _).alloc (Nat.le_refl _) _, Pr.here _ _ _ _⟩

theorem text_v {a b : Int} (v : vld a b = true) (W : World) (hs : St W) :
    Calls Tryd.prog 22 #[.agg #[.int .i64 a, .int .i64 b]] W fun e w' => e = .returned (.tuple #[.string (txt a b), .int .i64 0]) ∧ Below W.heap.size W w' := by
  obtain ⟨p, q⟩ := vld_bd v
  have h := text_any a b W p.i64 q.i64 hs
  rwa [show textR (vld a b) a b = txt a b by simp [textR, v], show cmpE (vld a b) = 0 by simp [cmpE, v]] at h

theorem txt_size {a b : Int} (v : vld a b = true) : (txt a b).size < 140737488355328 := by
  obtain ⟨p, q⟩ := vld_bd v
  have h1 := itS_size a p.i64
  have h2 := itS_size b q.i64
  unfold txt
  split
  · omega
  · rw [ByteArray.size_append, ByteArray.size_append, slash_size]; omega

theorem parse_txt {a b : Int} (v : vld a b = true) (W : World) (hs : St W) :
    Calls Tryd.prog 24 #[.string (txt a b)] W fun e w' => e = .returned (.tuple #[.agg #[.int .i64 a, .int .i64 b], .int .i64 0]) ∧ Below W.heap.size W w' := by
  have h := parse_any (txt a b) W hs (txt_size v)
  have e := (prs_iff _ a b).2 ⟨v, rfl⟩
  rwa [show prsN (txt a b).data.toList = a by simp [prsN, e], show prsD (txt a b).data.toList = b by simp [prsD, e], show prsE (txt a b).data.toList = 0 by simp [prsE, e]] at h

theorem parse_no {s : ByteArray} (hl : s.size < 140737488355328) (e : prs s.data.toList = none) (W : World) (hs : St W) :
    Calls Tryd.prog 24 #[.string s] W fun e w' => e = .returned (.tuple #[.agg #[.int .i64 0, .int .i64 0], .int .i64 8]) ∧ Below W.heap.size W w' := by
  have h := parse_any s W hs hl
  rwa [show prsN s.data.toList = 0 by simp [prsN, e], show prsD s.data.toList = 0 by simp [prsD, e], show prsE s.data.toList = 8 by simp [prsE, e]] at h

theorem parse_yes {s : ByteArray} {n d : Int} (hl : s.size < 140737488355328) (e : prs s.data.toList = some (n, d)) (W : World) (hs : St W) :
    Calls Tryd.prog 24 #[.string s] W fun e w' => e = .returned (.tuple #[.agg #[.int .i64 n, .int .i64 d], .int .i64 0]) ∧ Below W.heap.size W w' := by
  have h := parse_any s W hs hl
  rwa [show prsN s.data.toList = n by simp [prsN, e], show prsD s.data.toList = d by simp [prsD, e], show prsE s.data.toList = 0 by simp [prsE, e]] at h

set_option maxRecDepth 100000 in
set_option maxHeartbeats 1000000 in
theorem w_true_yes (aN aD : Int) (s : ByteArray) (iaN : I64 aN) (iaD : I64 aD) (w : World) (hs : St w) (hl : s.size < 140737488355328) (va : vld aN aD = true) (n d : Int) (hp : prs s.data.toList = some (n, d)) :
    Calls Tryd.prog 4 #[.agg #[.int .i64 aN, .int .i64 aD], .string s] w fun e w' => e = .returned (.bool true) ∧ Below w.heap.size w w' := by
  have HVa := Lib.hid va; clear va
  have hx := (prs_iff _ _ _).1 hp
  have hi : I64 n ∧ I64 d := ⟨(vld_bd hx.1).1.i64, (vld_bd hx.1).2.i64⟩
  have ht : ∀ W, St W → Calls Tryd.prog 22 #[.agg #[.int .i64 n, .int .i64 d]] W fun e w' => e = .returned (.tuple #[.string s, .int .i64 0]) ∧ Below W.heap.size W w' := by
    intro W hW
    have h := text_v hx.1 W hW
    rwa [str_ext hx.2] at h
  have HX := Lib.hid ht; clear ht
  have HVn := Lib.hid hx.1; clear hx
  have HI := Lib.hid hi; clear hi
  have HP := Lib.hid hp; clear hp
  have HS0 := Lib.hid hs; clear hs
  obtain ⟨B0, pa⟩ := box1 w aN aD 23
  have HS := Lib.hid (HS0.out.below B0 HS0.out.sz)
  clear HS0
  go_enter Tryd.func4, Tryd.ntmps4
  go_wp2_with fail
  generalize (w.alloc (.cells #[.int .i64 aN, .int .i64 aD] 23)) = w0 at *
  refine (head_any _ HS.out).mono ?_
  rintro e w1 ⟨rfl, hb⟩
  obtain ⟨B1, z1⟩ := on_same (Below.refl w0.heap.size w0) hb
  replace pa := pa.on hb
  clear hb z1
  have ⟨pa0, pa1⟩ := pa
  have pal := pa.lt
  go_wp2_with fail
  clear pa0 pa1 pal
  refine (valid_b aN aD true HVa.out _ iaN iaD).mono ?_
  rintro e w2 ⟨rfl, hb⟩
  obtain ⟨B2, z2⟩ := on_same B1 hb
  replace pa := pa.on hb
  clear hb z2
  have ⟨pa0, pa1⟩ := pa
  have pal := pa.lt
  go_wp2_with fail
  clear pa0 pa1 pal
  refine (text_v HVa.out _ (HS.out.below B2 HS.out.sz)).mono ?_
  rintro e w3 ⟨rfl, hb⟩
  obtain ⟨B3, z3⟩ := on_same B2 hb
  replace pa := pa.on hb
  clear hb z3
  have ⟨pa0, pa1⟩ := pa
  have pal := pa.lt
  go_wp2_with fail
  clear pa0 pa1 pal
  refine (parse_txt HVa.out _ (HS.out.below B3 HS.out.sz)).mono ?_
  rintro e w4 ⟨rfl, hb⟩
  obtain ⟨B4, z4⟩ := on_same B3 hb
  replace pa := pa.on hb
  clear hb z4
  have ⟨pa0, pa1⟩ := pa
  have pal := pa.lt
  go_wp2_with fail
  clear pa0 pa1 pal
  refine (parse_yes hl HP.out _ (HS.out.below (B4.alloc B4.size _) HS.out.sz)).mono ?_
  rintro e w5 ⟨rfl, hb⟩
  obtain ⟨B5, z5⟩ := on_new B4 hb
  replace pa := pa.next hb
  clear hb z5
  have ⟨pa0, pa1⟩ := pa
  have pal := pa.lt
  go_wp2_with fail
  clear pa0 pa1 pal
  refine (HX.out _ (HS.out.below (B5.alloc B5.size _) HS.out.sz)).mono ?_
  rintro e w6 ⟨rfl, hb⟩
  obtain ⟨B6, z6⟩ := on_new B5 hb
  replace pa := pa.next hb
  have pr := Pr.new hb
  clear hb z6
  have ⟨pa0, pa1⟩ := pa
  have pal := pa.lt
  have ⟨pr0, pr1⟩ := pr
  have prl := pr.lt
  go_wp2_with fail
  clear pa0 pa1 pal
  clear pr0 pr1 prl
  refine (valid_b n d true HVn.out _ HI.out.1 HI.out.2).mono ?_
  rintro e w7 ⟨rfl, hb⟩
  obtain ⟨B7, z7⟩ := on_same B6 hb
  replace pa := pa.on hb
  replace pr := pr.on hb
  clear hb z7
  have ⟨pa0, pa1⟩ := pa
  have pal := pa.lt
  have ⟨pr0, pr1⟩ := pr
  have prl := pr.lt
  go_wp2_with fail
  clear pa0 pa1 pal
  clear pr0 pr1 prl
  go_ret
  exact ⟨rfl, B0.trans (B7.mono B0.size)⟩

set_option maxRecDepth 100000 in
set_option maxHeartbeats 1000000 in
theorem w_true_no (aN aD : Int) (s : ByteArray) (iaN : I64 aN) (iaD : I64 aD) (w : World) (hs : St w) (hl : s.size < 140737488355328) (va : vld aN aD = true) (hp : prs s.data.toList = none) :
    Calls Tryd.prog 4 #[.agg #[.int .i64 aN, .int .i64 aD], .string s] w fun e w' => e = .returned (.bool true) ∧ Below w.heap.size w w' := by
  have HVa := Lib.hid va; clear va
  have HP := Lib.hid hp; clear hp
  have HS0 := Lib.hid hs; clear hs
  obtain ⟨B0, pa⟩ := box1 w aN aD 23
  have HS := Lib.hid (HS0.out.below B0 HS0.out.sz)
  clear HS0
  go_enter Tryd.func4, Tryd.ntmps4
  go_wp2_with fail
  generalize (w.alloc (.cells #[.int .i64 aN, .int .i64 aD] 23)) = w0 at *
  refine (head_any _ HS.out).mono ?_
  rintro e w1 ⟨rfl, hb⟩
  obtain ⟨B1, z1⟩ := on_same (Below.refl w0.heap.size w0) hb
  replace pa := pa.on hb
  clear hb z1
  have ⟨pa0, pa1⟩ := pa
  have pal := pa.lt
  go_wp2_with fail
  clear pa0 pa1 pal
  refine (valid_b aN aD true HVa.out _ iaN iaD).mono ?_
  rintro e w2 ⟨rfl, hb⟩
  obtain ⟨B2, z2⟩ := on_same B1 hb
  replace pa := pa.on hb
  clear hb z2
  have ⟨pa0, pa1⟩ := pa
  have pal := pa.lt
  go_wp2_with fail
  clear pa0 pa1 pal
  refine (text_v HVa.out _ (HS.out.below B2 HS.out.sz)).mono ?_
  rintro e w3 ⟨rfl, hb⟩
  obtain ⟨B3, z3⟩ := on_same B2 hb
  replace pa := pa.on hb
  clear hb z3
  have ⟨pa0, pa1⟩ := pa
  have pal := pa.lt
  go_wp2_with fail
  clear pa0 pa1 pal
  refine (parse_txt HVa.out _ (HS.out.below B3 HS.out.sz)).mono ?_
  rintro e w4 ⟨rfl, hb⟩
  obtain ⟨B4, z4⟩ := on_same B3 hb
  replace pa := pa.on hb
  clear hb z4
  have ⟨pa0, pa1⟩ := pa
  have pal := pa.lt
  go_wp2_with fail
  clear pa0 pa1 pal
  refine (parse_no hl HP.out _ (HS.out.below (B4.alloc B4.size _) HS.out.sz)).mono ?_
  rintro e w5 ⟨rfl, hb⟩
  obtain ⟨B5, z5⟩ := on_new B4 hb
  replace pa := pa.next hb
  clear hb z5
  have ⟨pa0, pa1⟩ := pa
  have pal := pa.lt
  go_wp2_with fail
  clear pa0 pa1 pal
  go_ret
  exact ⟨rfl, B0.trans ((B5.alloc B5.size _).mono B0.size)⟩

set_option maxRecDepth 100000 in
set_option maxHeartbeats 1000000 in
theorem w_false_yes (aN aD : Int) (s : ByteArray) (iaN : I64 aN) (iaD : I64 aD) (w : World) (hs : St w) (hl : s.size < 140737488355328) (va : vld aN aD = false) (n d : Int) (hp : prs s.data.toList = some (n, d)) :
    Calls Tryd.prog 4 #[.agg #[.int .i64 aN, .int .i64 aD], .string s] w fun e w' => e = .returned (.bool true) ∧ Below w.heap.size w w' := by
  have HVa := Lib.hid va; clear va
  have hx := (prs_iff _ _ _).1 hp
  have hi : I64 n ∧ I64 d := ⟨(vld_bd hx.1).1.i64, (vld_bd hx.1).2.i64⟩
  have ht : ∀ W, St W → Calls Tryd.prog 22 #[.agg #[.int .i64 n, .int .i64 d]] W fun e w' => e = .returned (.tuple #[.string s, .int .i64 0]) ∧ Below W.heap.size W w' := by
    intro W hW
    have h := text_v hx.1 W hW
    rwa [str_ext hx.2] at h
  have HX := Lib.hid ht; clear ht
  have HVn := Lib.hid hx.1; clear hx
  have HI := Lib.hid hi; clear hi
  have HP := Lib.hid hp; clear hp
  have HS0 := Lib.hid hs; clear hs
  obtain ⟨B0, pa⟩ := box1 w aN aD 23
  have HS := Lib.hid (HS0.out.below B0 HS0.out.sz)
  clear HS0
  go_enter Tryd.func4, Tryd.ntmps4
  go_wp2_with fail
  generalize (w.alloc (.cells #[.int .i64 aN, .int .i64 aD] 23)) = w0 at *
  refine (head_any _ HS.out).mono ?_
  rintro e w1 ⟨rfl, hb⟩
  obtain ⟨B1, z1⟩ := on_same (Below.refl w0.heap.size w0) hb
  replace pa := pa.on hb
  clear hb z1
  have ⟨pa0, pa1⟩ := pa
  have pal := pa.lt
  go_wp2_with fail
  clear pa0 pa1 pal
  refine (valid_b aN aD false HVa.out _ iaN iaD).mono ?_
  rintro e w2 ⟨rfl, hb⟩
  obtain ⟨B2, z2⟩ := on_same B1 hb
  replace pa := pa.on hb
  clear hb z2
  have ⟨pa0, pa1⟩ := pa
  have pal := pa.lt
  go_wp2_with fail
  clear pa0 pa1 pal
  refine (parse_yes hl HP.out _ (HS.out.below B2 HS.out.sz)).mono ?_
  rintro e w3 ⟨rfl, hb⟩
  obtain ⟨B3, z3⟩ := on_same B2 hb
  replace pa := pa.on hb
  clear hb z3
  have ⟨pa0, pa1⟩ := pa
  have pal := pa.lt
  go_wp2_with fail
  clear pa0 pa1 pal
  refine (HX.out _ (HS.out.below (B3.alloc B3.size _) HS.out.sz)).mono ?_
  rintro e w4 ⟨rfl, hb⟩
  obtain ⟨B4, z4⟩ := on_new B3 hb
  replace pa := pa.next hb
  have pr := Pr.new hb
  clear hb z4
  have ⟨pa0, pa1⟩ := pa
  have pal := pa.lt
  have ⟨pr0, pr1⟩ := pr
  have prl := pr.lt
  go_wp2_with fail
  clear pa0 pa1 pal
  clear pr0 pr1 prl
  refine (valid_b n d true HVn.out _ HI.out.1 HI.out.2).mono ?_
  rintro e w5 ⟨rfl, hb⟩
  obtain ⟨B5, z5⟩ := on_same B4 hb
  replace pa := pa.on hb
  replace pr := pr.on hb
  clear hb z5
  have ⟨pa0, pa1⟩ := pa
  have pal := pa.lt
  have ⟨pr0, pr1⟩ := pr
  have prl := pr.lt
  go_wp2_with fail
  clear pa0 pa1 pal
  clear pr0 pr1 prl
  go_ret
  exact ⟨rfl, B0.trans (B5.mono B0.size)⟩

set_option maxRecDepth 100000 in
set_option maxHeartbeats 1000000 in
theorem w_false_no (aN aD : Int) (s : ByteArray) (iaN : I64 aN) (iaD : I64 aD) (w : World) (hs : St w) (hl : s.size < 140737488355328) (va : vld aN aD = false) (hp : prs s.data.toList = none) :
    Calls Tryd.prog 4 #[.agg #[.int .i64 aN, .int .i64 aD], .string s] w fun e w' => e = .returned (.bool true) ∧ Below w.heap.size w w' := by
  have HVa := Lib.hid va; clear va
  have HP := Lib.hid hp; clear hp
  have HS0 := Lib.hid hs; clear hs
  obtain ⟨B0, pa⟩ := box1 w aN aD 23
  have HS := Lib.hid (HS0.out.below B0 HS0.out.sz)
  clear HS0
  go_enter Tryd.func4, Tryd.ntmps4
  go_wp2_with fail
  generalize (w.alloc (.cells #[.int .i64 aN, .int .i64 aD] 23)) = w0 at *
  refine (head_any _ HS.out).mono ?_
  rintro e w1 ⟨rfl, hb⟩
  obtain ⟨B1, z1⟩ := on_same (Below.refl w0.heap.size w0) hb
  replace pa := pa.on hb
  clear hb z1
  have ⟨pa0, pa1⟩ := pa
  have pal := pa.lt
  go_wp2_with fail
  clear pa0 pa1 pal
  refine (valid_b aN aD false HVa.out _ iaN iaD).mono ?_
  rintro e w2 ⟨rfl, hb⟩
  obtain ⟨B2, z2⟩ := on_same B1 hb
  replace pa := pa.on hb
  clear hb z2
  have ⟨pa0, pa1⟩ := pa
  have pal := pa.lt
  go_wp2_with fail
  clear pa0 pa1 pal
  refine (parse_no hl HP.out _ (HS.out.below B2 HS.out.sz)).mono ?_
  rintro e w3 ⟨rfl, hb⟩
  obtain ⟨B3, z3⟩ := on_same B2 hb
  replace pa := pa.on hb
  clear hb z3
  have ⟨pa0, pa1⟩ := pa
  have pal := pa.lt
  go_wp2_with fail
  clear pa0 pa1 pal
  go_ret
  exact ⟨rfl, B0.trans ((B3.alloc B3.size _).mono B0.size)⟩

theorem walk (aN aD : Int) (s : ByteArray) (iaN : I64 aN) (iaD : I64 aD) (w : World) (hs : St w) (hl : s.size < 140737488355328) :
    Calls Tryd.prog 4 #[.agg #[.int .i64 aN, .int .i64 aD], .string s] w fun e w' => e = .returned (.bool true) ∧ Below w.heap.size w w' := by
  cases va : vld aN aD with
  | true =>
    cases hp : prs s.data.toList with
    | none => exact w_true_no aN aD s iaN iaD w hs hl va hp
    | some p => exact w_true_yes aN aD s iaN iaD w hs hl va p.1 p.2 hp
  | false =>
    cases hp : prs s.data.toList with
    | none => exact w_false_no aN aD s iaN iaD w hs hl va hp
    | some p => exact w_false_yes aN aD s iaN iaD w hs hl va p.1 p.2 hp

/-! ### The row and the card -/
open Go.ChangeShapes Go.WideShapes Go.ChangeAt
open Go.ChangeMaps (open_string shut_string)

set_option maxRecDepth 100000 in
theorem contract (H : Type) (enc : TypeId × Value → H) (W : World) (base : Nat) (args : Array Value) (ds gs : List (DataW H)) (before : List MemPlace)
    (hval : ∀ (j : Nat) t v, Tryd.f4.params[j]? = some t → args[j]? = some v → Value.okWide Tryd.prog W .any base t v)
    (hW : DataW.Whole enc Tryd.prog Tryd.f4.params.toList Rows.rationalTextSpec.vars false W args.toList ds gs before) (hr : (DataW.weightsEach Tryd.prog (Tryd.f4.params.toList ++ (OpenSpec.ofChange Rows.rationalTextSpec).bare.plain.varTypes Tryd.prog) (ds ++ gs)).all (· ≤ reachBytes) = true) (hL : laidMetH Tryd.prog laid5 W) (hsh : W.ShapedOpen Tryd.prog) :
    Calls Tryd.prog 4 args W fun e W' => ∃ v, e = .returned v ∧ Rows.rationalTextSpec.post enc Tryd.prog Tryd.f4 false true false false W args v W' := by
  have hW' := hW
  obtain ⟨p, q, hA0, hV, rfl, hfz, hnd⟩ := hW
  have hA : DataW.TrodAll enc Tryd.prog W 0 (fun _ => true) true Tryd.f4.params.toList args.toList ds p := hA0
  rw [Tryd.params4] at hA hval
  obtain ⟨v0, vs0, d0, ds0, p0, q0, hargs, rfl, rfl, h0, r0⟩ := trodAll_cons hA
  obtain ⟨v1, vs1, d1, ds1, p1, q1, rfl, rfl, rfl, h1, r1⟩ := trodAll_cons r0
  obtain ⟨rfl, rfl, rfl⟩ := trodAll_nil r1
  obtain rfl : args = #[v0, v1] := Array.toList_inj.1 hargs
  obtain ⟨rfl, rfl⟩ := trodVars_none hV
  obtain ⟨aN, aD, rfl, rfl, rfl, waN, waD⟩ := open_rat (hval 0 23 v0 rfl rfl) h0
  obtain ⟨s, rfl, rfl, rfl, ws⟩ := open_string Tryd.underlying9 (hval 1 9 v1 rfl rfl) h1
  clear hA0
  have zs := sized_string (j := 1) (t := 9) hr rfl rfl
  have es : s.data.toList.length = s.size := by rw [Array.length_toList]; rfl
  rw [es] at zs
  have hz := reachBytes_lt
  refine (walk aN aD s (wf_i waN) (wf_i waD) W (st_of hL hsh) (by omega)).mono fun e W' ⟨he, bel⟩ => ?_
  subst he
  exact ⟨_, rfl, _, _, _, [], [], [], hW', trodAll_mk1 (shut_bool Tryd.underlying4 _), (trodAll_cons_mk (shut_rat waN waD) (trodAll_cons_mk (shut_string Tryd.underlying9 ws) trodAll_mk0)), rfl, bel.frame _, fun h => by cases h⟩

theorem reads (os : Os) {H : Type} (enc : TypeId × Value → H) : ∃ places, DataW.whole enc Tryd.prog ((laidWorld os).forCall (fun _ _ => 0) ⟨#[], #[.agg #[.int .i64 0, .int .i64 0], .string ⟨#[]⟩], []⟩).memory Tryd.f4.params.toList Rows.rationalTextSpec.vars false (#[.agg #[.int .i64 0, .int .i64 0], .string ⟨#[]⟩] : Array Value).toList 8 = some ([.agg [.lit (.int .i64 0), .lit (.int .i64 0)], .lit (.string [])], [], places) :=
  ⟨[], by kernel_rfl⟩

set_option maxRecDepth 100000 in
theorem lifted (os : Os) (started : os.Started) (H : Type) (enc : TypeId × Value → H) (F : Stop.Interp) :
    ReturnsInHanded {} Tryd.checked os 4 .any ((OpenSpec.ofChange Rows.rationalTextSpec).preRow enc Tryd.prog Tryd.f4 Rows.rationalTextRow.domain false Rows.rationalTextRow.laid) (((OpenSpec.ofChange Rows.rationalTextSpec).at F).post enc Tryd.prog Tryd.f4 false true false false) := by
  obtain ⟨places, hx⟩ := reads os enc
  refine returnsInHanded_of_row (C := Tryd.checked) (s := OpenSpec.ofChange Rows.rationalTextSpec) own started (by kernel_rfl) Tryd.func4
    (witness_row_atRef (enc := enc) (C := Tryd.checked) false (laidWorld os) #[.agg #[.int .i64 0, .int .i64 0], .string ⟨#[]⟩] rfl (by kernel_rfl) (by kernel_rfl) (by kernel_rfl)
      (OpenSpec.preRow_of_cond 8 hx (by kernel_rfl) (fun k hk => by cases hk) (by kernel_rfl) (laidWorld_met os _))) ?_
  intro W base args ds gs before hval hW _ hcond hr hL hsh _
  exact contract H enc W base args ds gs before hval hW hr hL hsh

theorem said : Rows.RationalTextSaid :=
  OpenClaim.holds_of_cond 4 Tryd.f4 rfl rfl rfl rfl rfl rfl rfl ⟨rfl, rfl, rfl, rfl, rfl⟩ rfl rfl rfl rfl rfl (by kernel_rfl) Tryd.func4 (by kernel_rfl)
    (of_decide_eq_true (by kernel_rfl)) (by unfold Func.isWrapper; first | (rw [if_pos (by decide +kernel)]; kernel_rfl) | (rw [if_neg (by decide +kernel)]; exact ⟨rfl, rfl⟩))
    (fun os started H enc _ F => by rw [OpenClaim.pre_eq_preRow]; exact lifted os started H enc F)

theorem plain (f : FuncId) (fn : Func) (hf : Tryd.pinned.checked.prog.funcNamed "barcarole/barcarolelaw01.RationalText" = some f) (hfn : Tryd.pinned.checked.prog.funcs[f]? = some fn) :
    true = Tryd.pinned.checked.prog.looks [] ∧ ∀ (j : Nat) t, fn.params[j]? = some t → Tryd.pinned.checked.prog.wantsStandIn t = false := by
  obtain rfl : f = 4 := Option.some.inj ((show Tryd.prog.funcNamed "barcarole/barcarolelaw01.RationalText" = some 4 by kernel_rfl).symm.trans hf) |>.symm
  obtain rfl : fn = Tryd.f4 := (Option.some.inj (Tryd.func4.symm.trans hfn)).symm
  refine ⟨by kernel_rfl, fun j t ht => ?_⟩
  rw [Tryd.params4] at ht
  have ht' : t = 23 ∨ t = 9 := by
    have := Array.mem_of_getElem? ht
    simp at this
    omega
  rcases ht' with rfl | rfl
  · exact (show Tryd.prog.wantsStandIn 23 = false by kernel_rfl)
  · exact (show Tryd.prog.wantsStandIn 9 = false by kernel_rfl)

/-- The statement. -/
theorem card : Rows.RationalTextCardSaid :=
  Claim7.holds_tied_plain_at .later [] _ _ _ _ said (fun _ h => by cases h) (by kernel_rfl) (fun _ h => by cases h) rationalText_row_tie rfl ⟨rfl, rfl⟩ (by kernel_rfl) rfl plain (by kernel_rfl)
end Go.Proofs.YtpmlfchbihoflaaDoor.rationalText
