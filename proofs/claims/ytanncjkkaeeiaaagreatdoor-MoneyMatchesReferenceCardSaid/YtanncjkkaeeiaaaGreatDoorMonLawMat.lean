/-
  MoneyMatchesReference: all functions of package money return what the reference returns: for any slices of ints, ints, pair of ints and string.
  Conditions: the package variables that the row lists hold what the program's text lays.
-/
import Derived.Test.YtanncjkkaeeiaaaGreatDoorMonRZ
import Derived.Test.YtanncjkkaeeiaaaGreatDoorCards
import Derived.Test.YtanncjkkaeeiaaaGreatDoorTie
import Derived.Deep.DeepCutAuto
namespace Go.Proofs.YtanncjkkaeeiaaaGreatDoor.moneyMatchesReference
open Go.RowKit Go.Sort
open Go.RowKit (Below)
set_option linter.unusedVariables false

theorem few_y (A : Option Addr) (C : Nat) (xs ys : List Int) (w0 w : World) (hy : xs.take 100 = ys) (hS : Sl w0 A xs) (h1 : xs.length ≤ C) (hC : C ≤ 9223372036854775807) : Calls Tryz.prog 5 #[.slice A xs.length C] w fun e w' => e = .returned (.slice A ys.length C) ∧ w = w' := by
  subst hy; exact few_any A C xs w0 w hS h1 hC
/-- What the walk needs of the results. -/
structure Res (lA : Option Addr) (lC : Nat) (ys : List Int) (c rN rD : Int) (mA : Option Addr) (mC : Nat) (zs : List Int) (S : ByteArray) (f t : Int) (aR aE bR bE gE xR xE tE pR pU pX : Int) (tS : ByteArray) (V : List Int) : Prop where
  add : ∀ W : World, Sl W lA ys → Calls Tryz.prog 6 #[.slice lA ys.length lC] W fun x w' => x = .returned (.tuple #[.int .i64 aR, .int .i64 aE]) ∧ W = w'
  radd : ∀ W : World, Sl W lA ys → Calls Tryz.prog 7 #[.slice lA ys.length lC] W fun x w' => x = .returned (.tuple #[.int .i64 aR, .int .i64 aE]) ∧ W = w'
  scale : ∀ W : World, Calls Tryz.prog 8 #[.int .i64 c, .agg #[.int .i64 rN, .int .i64 rD]] W fun x w' => x = .returned (.tuple #[.int .i64 bR, .int .i64 bE]) ∧ Below W.heap.size W w'
  rscale : ∀ W : World, Calls Tryz.prog 9 #[.int .i64 c, .agg #[.int .i64 rN, .int .i64 rD]] W fun x w' => x = .returned (.tuple #[.int .i64 bR, .int .i64 bE]) ∧ Below W.heap.size W w'
  text : ∀ W : World, St6 W → Calls Tryz.prog 13 #[.int .i64 c, .int .i64 f] W fun x w' => x = .returned (.tuple #[.string tS, .int .i64 tE]) ∧ Below W.heap.size W w'
  rtext : ∀ W : World, St6 W → Calls Tryz.prog 14 #[.int .i64 c, .int .i64 f] W fun x w' => x = .returned (.tuple #[.string tS, .int .i64 tE]) ∧ Below W.heap.size W w'
  exch : ∀ W : World, Calls Tryz.prog 15 #[.int .i64 c, .int .i64 f, .int .i64 t, .agg #[.int .i64 rN, .int .i64 rD]] W fun x w' => x = .returned (.tuple #[.int .i64 xR, .int .i64 xE]) ∧ Below W.heap.size W w'
  rexch : ∀ W : World, Calls Tryz.prog 16 #[.int .i64 c, .int .i64 f, .int .i64 t, .agg #[.int .i64 rN, .int .i64 rD]] W fun x w' => x = .returned (.tuple #[.int .i64 xR, .int .i64 xE]) ∧ Below W.heap.size W w'
  parse : ∀ W : World, St6 W → Calls Tryz.prog 17 #[.string S] W fun x w' => x = .returned (.tuple #[.int .i64 pR, .int .i64 pU, .int .i64 pX]) ∧ Below W.heap.size W w'
  rparse : ∀ W : World, St6 W → Calls Tryz.prog 18 #[.string S] W fun x w' => x = .returned (.tuple #[.int .i64 pR, .int .i64 pU, .int .i64 pX]) ∧ Below W.heap.size W w'
  split : ∀ W : World, Sl W mA zs → Calls Tryz.prog 10 #[.int .i64 c, .slice mA zs.length mC] W (Gives V gE W)
  rsplit : ∀ W : World, Sl W mA zs → Calls Tryz.prog 11 #[.int .i64 c, .slice mA zs.length mC] W (Gives V gE W)

theorem res (lA : Option Addr) (lC : Nat) (ys : List Int) (c rN rD : Int) (mA : Option Addr) (mC : Nat) (zs : List Int) (S : ByteArray) (f t : Int) (irN : I64 rN) (irD : I64 rD) (hy : ys.length ≤ 100) (hz : zs.length ≤ 100) (hS : S.size ≤ 200) :
    ∃ aR aE bR bE gE xR xE tE pR pU pX tS V, V.length ≤ 100000 ∧ Res lA lC ys c rN rD mA mC zs S f t aR aE bR bE gE xR xE tE pR pU pX tS V := by
  have hsp : ∃ gE V, V.length ≤ 100000 ∧ (∀ W : World, Sl W mA zs → Calls Tryz.prog 10 #[.int .i64 c, .slice mA zs.length mC] W (Gives V gE W)) ∧ (∀ W : World, Sl W mA zs → Calls Tryz.prog 11 #[.int .i64 c, .slice mA zs.length mC] W (Gives V gE W)) := by
    cases h : (am c && wts zs) with
    | true =>
      rw [Bool.and_eq_true] at h
      exact ⟨0, parts c zs, by simp [parts]; omega, fun W hW => (split_ok c mA mC zs W h.1 h.2 hW).mono fun _ _ hx => gives_ok hx, fun W hW => (refsplit_ok c mA mC zs W h.1 h.2 hW).mono fun _ _ hx => gives_ok hx⟩
    | false => exact ⟨1, [], by simp, fun W hW => (split_bad c mA mC zs W (by omega) h hW).mono fun _ _ hx => gives_bad hx, fun W hW => (refsplit_bad c mA mC zs W (by omega) h hW).mono fun _ _ hx => gives_bad hx⟩
  have htx : ∃ tS tE, (∀ W : World, St6 W → Calls Tryz.prog 13 #[.int .i64 c, .int .i64 f] W fun x w' => x = .returned (.tuple #[.string tS, .int .i64 tE]) ∧ Below W.heap.size W w') ∧ (∀ W : World, St6 W → Calls Tryz.prog 14 #[.int .i64 c, .int .i64 f] W fun x w' => x = .returned (.tuple #[.string tS, .int .i64 tE]) ∧ Below W.heap.size W w') := by
    cases h : (am c && cur f) with
    | true =>
      rw [Bool.and_eq_true] at h
      exact ⟨_, _, fun W hW => text_ok c f W h.1 h.2 hW.st, fun W hW => reftext_ok c f W h.1 h.2⟩
    | false => exact ⟨_, _, fun W hW => (text_bad c f W h).mono fun _ _ ⟨h1, h2⟩ => ⟨h1, h2 ▸ Below.refl _ _⟩, fun W hW => (reftext_bad c f W h).mono fun _ _ ⟨h1, h2⟩ => ⟨h1, h2 ▸ Below.refl _ _⟩⟩
  obtain ⟨gE, V, hV, s1, s2⟩ := hsp
  obtain ⟨tS, tE, t1, t2⟩ := htx
  exact ⟨_, _, _, _, _, _, _, _, _, _, _, tS, V, hV,
   { add := fun W h => add_any lA lC ys W hy h, radd := fun W h => refadd_any lA lC ys W hy h,
      scale := fun W => scale_any c rN rD W irN irD, rscale := fun W => refscale_any c rN rD W irN irD,
      text := t1, rtext := t2,
      exch := fun W => exchange_any c f t rN rD W irN irD, rexch := fun W => refexchange_any c f t rN rD W irN irD,
      parse := fun W h => parse_any S hS W h, rparse := fun W h => refparse_any S hS W,
      split := s1, rsplit := s2 }⟩

/-- What stays from call to call. -/
structure Env (w0 : World) (lA : Option Addr) (ys : List Int) (mA : Option Addr) (zs : List Int) (rN rD : Int) (w : World) : Prop where
  st : St6 w
  ly : Sl w lA ys
  mz : Sl w mA zs
  pr : Pr w w0.heap.size rN rD
  bl : Below w0.heap.size w0 w
theorem Env.on {w0 : World} {lA : Option Addr} {ys : List Int} {mA : Option Addr} {zs : List Int} {rN rD : Int} {w w' : World} (h : Env w0 lA ys mA zs rN rD w) (hb : Below w.heap.size w w') : Env w0 lA ys mA zs rN rD w' :=
  ⟨h.st.below hb h.st.st.sz, h.ly.below hb, h.mz.below hb, h.pr.on hb, h.bl.trans (hb.mono h.bl.size)⟩

set_option maxRecDepth 100000 in
set_option maxHeartbeats 8000000 in
theorem ok (lA : Option Addr) (lC : Nat) (l : List Int) (zl : l.length ≤ 9223372036854775807) (jl : ∀ x ∈ l, I64 x) (kl : l.length ≤ lC ∧ lC ≤ 9223372036854775807) (c : Int) (ic : I64 c) (rN rD : Int) (irN : I64 rN) (irD : I64 rD) (mA : Option Addr) (mC : Nat) (m : List Int) (zm : m.length ≤ 9223372036854775807) (jm : ∀ x ∈ m, I64 x) (km : m.length ≤ mC ∧ mC ≤ 9223372036854775807) (s : ByteArray) (zs : s.size ≤ 9223372036854775807) (f : Int) (if_ : I64 f) (t : Int) (it : I64 t) (w : World) (hs : St6 w) (sl : Sl w lA l) (sm : Sl w mA m) (k : Nat) (hm : min (s.size : Int) 100 = k) (hms : k ≤ s.size) (S : ByteArray) (hS : s.extract 0 k = S) (ys zs : List Int) (hy : l.take 100 = ys) (hz : m.take 100 = zs) (aR aE bR bE gE xR xE tE pR pU pX : Int) (tS : ByteArray) (V : List Int) (hV : V.length ≤ 100000) (r : Res lA lC ys c rN rD mA mC zs S f t aR aE bR bE gE xR xE tE pR pU pX tS V) :
    Calls Tryz.prog 3 #[.slice lA l.length lC, .int .i64 c, .agg #[.int .i64 rN, .int .i64 rD], .slice mA m.length mC, .string s, .int .i64 f, .int .i64 t] w fun e w' => e = .returned (.bool true) ∧ Below w.heap.size w w' := by
  subst hS
  have HR := Lib.hid r
  have HS := Lib.hid hs
  have HL := Lib.hid sl
  have HM := Lib.hid sm
  have HY := Lib.hid hy
  have HZ := Lib.hid hz
  clear r hs sl sm hy hz
  go_enter Tryz.func3, Tryz.ntmps3
  go_wp2_with fail
  have hb0 : Below w.heap.size w (w.alloc (.cells #[.int .i64 rN, .int .i64 rD] 24)) := (Below.refl _ _).alloc (Nat.le_refl _) _
  have HE := Lib.hid (show Env w lA l mA m rN rD (w.alloc (.cells #[.int .i64 rN, .int .i64 rD] 24)) from ⟨HS.out.below hb0 HS.out.st.sz, HL.out.below hb0, HM.out.below hb0, Pr.here w rN rD _, hb0⟩)
  clear hb0 HS HL HM
  generalize w.alloc (.cells #[.int .i64 rN, .int .i64 rD] 24) = w1 at *
  refine (head_any _ HE.out.st.st).mono ?_
  rintro x w' ⟨rfl, hb⟩
  replace HE := Lib.hid (HE.out.on hb)
  clear hb
  have ⟨p0, p1⟩ := HE.out.pr
  have pl := HE.out.pr.lt
  go_wp2_with fail
  clear p0 p1 pl
  refine (few_y _ _ _ _ _ _ HY.out HE.out.ly kl.1 kl.2).mono ?_
  rintro x w' ⟨rfl, rfl⟩
  have ⟨p0, p1⟩ := HE.out.pr
  have pl := HE.out.pr.lt
  go_wp2_with fail
  clear p0 p1 pl
  refine (few_y _ _ _ _ _ _ HZ.out HE.out.mz km.1 km.2).mono ?_
  rintro x w' ⟨rfl, rfl⟩
  replace HE := Lib.hid (show Env w lA ys mA zs rN rD _ from ⟨HE.out.st, HY.out ▸ HE.out.ly.few, HZ.out ▸ HE.out.mz.few, HE.out.pr, HE.out.bl⟩)
  have ⟨p0, p1⟩ := HE.out.pr
  have pl := HE.out.pr.lt
  go_wp2_with fail
  clear p0 p1 pl
  refine (HR.out.add _ HE.out.ly).mono ?_
  rintro x w' ⟨rfl, rfl⟩
  have ⟨p0, p1⟩ := HE.out.pr
  have pl := HE.out.pr.lt
  go_wp2_with fail
  clear p0 p1 pl
  refine (HR.out.radd _ HE.out.ly).mono ?_
  rintro x w' ⟨rfl, rfl⟩
  have ⟨p0, p1⟩ := HE.out.pr
  have pl := HE.out.pr.lt
  go_wp2_with fail
  clear p0 p1 pl
  refine (HR.out.scale _).mono ?_
  rintro x w' ⟨rfl, hb⟩
  replace HE := Lib.hid (HE.out.on hb)
  clear hb
  have ⟨p0, p1⟩ := HE.out.pr
  have pl := HE.out.pr.lt
  go_wp2_with fail
  clear p0 p1 pl
  refine (HR.out.rscale _).mono ?_
  rintro x w' ⟨rfl, hb⟩
  replace HE := Lib.hid (HE.out.on hb)
  clear hb
  have ⟨p0, p1⟩ := HE.out.pr
  have pl := HE.out.pr.lt
  go_wp2_with fail
  clear p0 p1 pl
  refine (HR.out.split _ HE.out.mz).mono ?_
  rintro x w' ⟨B1, rfl, hs1, hb⟩
  replace HE := Lib.hid (HE.out.on hb)
  have H1 := Lib.hid hs1
  clear hb hs1
  have ⟨p0, p1⟩ := HE.out.pr
  have pl := HE.out.pr.lt
  go_wp2_with fail
  clear p0 p1 pl
  refine (HR.out.rsplit _ HE.out.mz).mono ?_
  rintro x w' ⟨B2, rfl, hs2, hb⟩
  replace HE := Lib.hid (HE.out.on hb)
  replace H1 := Lib.hid (H1.out.below hb)
  have H2 := Lib.hid hs2
  clear hb hs2
  have ⟨p0, p1⟩ := HE.out.pr
  have pl := HE.out.pr.lt
  go_wp2_with fail
  clear p0 p1 pl
  refine (same_self _ _ _ _ _ _ hV H1.out H2.out).mono ?_
  rintro x w' ⟨rfl, hb⟩
  replace HE := Lib.hid (HE.out.on hb)
  clear hb
  have ⟨p0, p1⟩ := HE.out.pr
  have pl := HE.out.pr.lt
  go_wp2_with fail
  clear p0 p1 pl
  clear H1 H2
  refine (HR.out.text _ HE.out.st).mono ?_
  rintro x w' ⟨rfl, hb⟩
  replace HE := Lib.hid (HE.out.on hb)
  clear hb
  have ⟨p0, p1⟩ := HE.out.pr
  have pl := HE.out.pr.lt
  go_wp2_with fail
  clear p0 p1 pl
  refine (HR.out.rtext _ HE.out.st).mono ?_
  rintro x w' ⟨rfl, hb⟩
  replace HE := Lib.hid (HE.out.on hb)
  clear hb
  have ⟨p0, p1⟩ := HE.out.pr
  have pl := HE.out.pr.lt
  go_wp2_with fail
  clear p0 p1 pl
  refine (HR.out.exch _).mono ?_
  rintro x w' ⟨rfl, hb⟩
  replace HE := Lib.hid (HE.out.on hb)
  clear hb
  have ⟨p0, p1⟩ := HE.out.pr
  have pl := HE.out.pr.lt
  go_wp2_with fail
  clear p0 p1 pl
  refine (HR.out.rexch _).mono ?_
  rintro x w' ⟨rfl, hb⟩
  replace HE := Lib.hid (HE.out.on hb)
  clear hb
  have ⟨p0, p1⟩ := HE.out.pr
  have pl := HE.out.pr.lt
  go_wp2_with fail
  clear p0 p1 pl
  refine (HR.out.parse _ HE.out.st).mono ?_
  rintro x w' ⟨rfl, hb⟩
  replace HE := Lib.hid (HE.out.on hb)
  clear hb
  have ⟨p0, p1⟩ := HE.out.pr
  have pl := HE.out.pr.lt
  go_wp2_with fail
  clear p0 p1 pl
  refine (HR.out.rparse _ HE.out.st).mono ?_
  rintro x w' ⟨rfl, hb⟩
  replace HE := Lib.hid (HE.out.on hb)
  clear hb
  go_wp2_with fail
  go_ret
  exact ⟨rfl, HE.out.bl⟩

theorem walk (lA : Option Addr) (lC : Nat) (l : List Int) (zl : l.length ≤ 9223372036854775807) (jl : ∀ x ∈ l, I64 x) (kl : l.length ≤ lC ∧ lC ≤ 9223372036854775807) (c : Int) (ic : I64 c) (rN rD : Int) (irN : I64 rN) (irD : I64 rD) (mA : Option Addr) (mC : Nat) (m : List Int) (zm : m.length ≤ 9223372036854775807) (jm : ∀ x ∈ m, I64 x) (km : m.length ≤ mC ∧ mC ≤ 9223372036854775807) (s : ByteArray) (zs : s.size ≤ 9223372036854775807) (f : Int) (if_ : I64 f) (t : Int) (it : I64 t) (w : World) (hs : St6 w) (sl : Sl w lA l) (sm : Sl w mA m) :
    Calls Tryz.prog 3 #[.slice lA l.length lC, .int .i64 c, .agg #[.int .i64 rN, .int .i64 rD], .slice mA m.length mC, .string s, .int .i64 f, .int .i64 t] w fun e w' => e = .returned (.bool true) ∧ Below w.heap.size w w' := by
  obtain ⟨k, hm, hms, hm1⟩ : ∃ k : Nat, min (s.size : Int) 100 = k ∧ k ≤ s.size ∧ k ≤ 100 := ⟨min s.size 100, by omega, by omega, by omega⟩
  obtain ⟨S, hS⟩ : ∃ S, s.extract 0 k = S := ⟨_, rfl⟩
  have hz : S.size ≤ 200 := by rw [← hS, ByteArray.size_extract]; omega
  obtain ⟨_, _, _, _, _, _, _, _, _, _, _, _, _, hV, r⟩ := res lA lC (l.take 100) c rN rD mA mC (m.take 100) S f t irN irD (by simp; omega) (by simp; omega) hz
  exact ok lA lC l zl jl kl c ic rN rD irN irD mA mC m zm jm km s zs f if_ t it w hs sl sm k hm hms S hS _ _ rfl rfl _ _ _ _ _ _ _ _ _ _ _ _ _ hV r

/-! ### The row and the card -/
open Go.ChangeShapes Go.WideShapes Go.ChangeAt
open Go.ChangeMaps (open_string shut_string)

set_option maxRecDepth 100000 in
theorem contract (H : Type) (enc : TypeId × Value → H) (W : World) (base : Nat) (args : Array Value) (ds gs : List (DataW H)) (before : List MemPlace)
    (hval : ∀ (j : Nat) t v, Tryz.f3.params[j]? = some t → args[j]? = some v → Value.okWide Tryz.prog W .any base t v)
    (hW : DataW.Whole enc Tryz.prog Tryz.f3.params.toList Rows.moneyMatchesReferenceSpec.vars false W args.toList ds gs before) (hL : laidMetH Tryz.prog laid6 W) (hsh : W.ShapedOpen Tryz.prog) :
    Calls Tryz.prog 3 args W fun e W' => ∃ v, e = .returned v ∧ Rows.moneyMatchesReferenceSpec.post enc Tryz.prog Tryz.f3 false true false false W args v W' := by
  have hW' := hW
  have hold : ∀ q ∈ before, decide (q.block < W.heap.size) = true := fun q hq => by simpa using hW.lt q hq
  obtain ⟨p, q, hA0, hV, rfl, hfz, hnd⟩ := hW
  have hA : DataW.TrodAll enc Tryz.prog W 0 (fun _ => true) true Tryz.f3.params.toList args.toList ds p := hA0
  rw [Tryz.params3] at hA hval
  obtain ⟨v0, vs0, d0, ds0, p0, q0, hargs, rfl, rfl, h0, r0⟩ := trodAll_cons hA
  obtain ⟨v1, vs1, d1, ds1, p1, q1, rfl, rfl, rfl, h1, r1⟩ := trodAll_cons r0
  obtain ⟨v2, vs2, d2, ds2, p2, q2, rfl, rfl, rfl, h2, r2⟩ := trodAll_cons r1
  obtain ⟨v3, vs3, d3, ds3, p3, q3, rfl, rfl, rfl, h3, r3⟩ := trodAll_cons r2
  obtain ⟨v4, vs4, d4, ds4, p4, q4, rfl, rfl, rfl, h4, r4⟩ := trodAll_cons r3
  obtain ⟨v5, vs5, d5, ds5, p5, q5, rfl, rfl, rfl, h5, r5⟩ := trodAll_cons r4
  obtain ⟨v6, vs6, d6, ds6, p6, q6, rfl, rfl, rfl, h6, r6⟩ := trodAll_cons r5
  obtain ⟨rfl, rfl, rfl⟩ := trodAll_nil r6
  obtain rfl : args = #[v0, v1, v2, v3, v4, v5, v6] := Array.toList_inj.1 hargs
  obtain ⟨rfl, rfl⟩ := trodVars_none hV
  obtain ⟨lA, lC, l, rfl, sl, zl, jl, kl, shutl⟩ := open_list2 (hval 0 22 v0 rfl rfl) h0
  obtain ⟨c, rfl, rfl, rfl, wc⟩ := open_int Tryz.underlying3 (hval 1 3 v1 rfl rfl) h1
  obtain ⟨rN, rD, rfl, rfl, rfl, wrN, wrD⟩ := open_rat (hval 2 24 v2 rfl rfl) h2
  obtain ⟨mA, mC, m, rfl, sm, zm, jm, km, shutm⟩ := open_list2 (hval 3 22 v3 rfl rfl) h3
  obtain ⟨s, rfl, rfl, rfl, ws⟩ := open_string Tryz.underlying9 (hval 4 9 v4 rfl rfl) h4
  obtain ⟨f, rfl, rfl, rfl, wf⟩ := open_int Tryz.underlying3 (hval 5 3 v5 rfl rfl) h5
  obtain ⟨t, rfl, rfl, rfl, wt⟩ := open_int Tryz.underlying3 (hval 6 3 v6 rfl rfl) h6
  clear hA0
  refine (walk lA lC l zl jl kl c (wf_i wc) rN rD (wf_i wrN) (wf_i wrD) mA mC m zm jm km s ws f (wf_i wf) t (wf_i wt) W (st_of6 hL hsh) sl sm).mono fun e W' ⟨he, bel⟩ => ?_
  subst he
  exact ⟨_, rfl, _, _, _, [], _, [], hW', trodAll_mk1 (shut_bool Tryz.underlying4 _), (trodAll_cons_mk (shutl W' (fun b => decide (b < W.heap.size)) bel (fun q hq => hold q (by simp [hq]))) (trodAll_cons_mk (shut_int Tryz.underlying3 wc) (trodAll_cons_mk (shut_rat wrN wrD) (trodAll_cons_mk (shutm W' (fun b => decide (b < W.heap.size)) bel (fun q hq => hold q (by simp [hq]))) (trodAll_cons_mk (shut_string Tryz.underlying9 ws) (trodAll_cons_mk (shut_int Tryz.underlying3 wf) (trodAll_cons_mk (shut_int Tryz.underlying3 wt) trodAll_mk0))))))), rfl, bel.frame _, fun h => by cases h⟩

theorem reads (os : Os) {H : Type} (enc : TypeId × Value → H) : ∃ places, DataW.whole enc Tryz.prog ((laidWorld os).forCall (fun _ _ => 0) ⟨#[], #[.slice none 0 0, .int .i64 0, .agg #[.int .i64 0, .int .i64 0], .slice none 0 0, .string ⟨#[]⟩, .int .i64 0, .int .i64 0], []⟩).memory Tryz.f3.params.toList Rows.moneyMatchesReferenceSpec.vars false (#[.slice none 0 0, .int .i64 0, .agg #[.int .i64 0, .int .i64 0], .slice none 0 0, .string ⟨#[]⟩, .int .i64 0, .int .i64 0] : Array Value).toList 8 = some ([.nil, .lit (.int .i64 0), .agg [.lit (.int .i64 0), .lit (.int .i64 0)], .nil, .lit (.string []), .lit (.int .i64 0), .lit (.int .i64 0)], [], places) :=
  ⟨[], by kernel_rfl⟩

set_option maxRecDepth 100000 in
theorem lifted (os : Os) (started : os.Started) (H : Type) (enc : TypeId × Value → H) (F : Stop.Interp) :
    ReturnsInHanded {} Tryz.checked os 3 .any ((OpenSpec.ofChange Rows.moneyMatchesReferenceSpec).preRow enc Tryz.prog Tryz.f3 Rows.moneyMatchesReferenceRow.domain false Rows.moneyMatchesReferenceRow.laid) (((OpenSpec.ofChange Rows.moneyMatchesReferenceSpec).at F).post enc Tryz.prog Tryz.f3 false true false false) := by
  obtain ⟨places, hx⟩ := reads os enc
  refine returnsInHanded_of_row (C := Tryz.checked) (s := OpenSpec.ofChange Rows.moneyMatchesReferenceSpec) own started (by kernel_rfl) Tryz.func3
    (witness_row_atRef (enc := enc) (C := Tryz.checked) false (laidWorld os) #[.slice none 0 0, .int .i64 0, .agg #[.int .i64 0, .int .i64 0], .slice none 0 0, .string ⟨#[]⟩, .int .i64 0, .int .i64 0] rfl (by kernel_rfl) (by kernel_rfl) (by kernel_rfl)
      (OpenSpec.preRow_of_cond 8 hx (by kernel_rfl) (fun k hk => by cases hk) (by kernel_rfl) (laidWorld_met6 os _))) ?_
  intro W base args ds gs before hval hW _ hcond _ hL hsh _
  exact contract H enc W base args ds gs before hval hW hL hsh

theorem said : Rows.MoneyMatchesReferenceSaid :=
  OpenClaim.holds_of_cond 3 Tryz.f3 rfl rfl rfl rfl rfl rfl rfl ⟨rfl, rfl, rfl, rfl, rfl⟩ rfl rfl rfl rfl rfl (by kernel_rfl) Tryz.func3 (by kernel_rfl)
    (of_decide_eq_true (by kernel_rfl)) (by unfold Func.isWrapper; first | (rw [if_pos (by decide +kernel)]; kernel_rfl) | (rw [if_neg (by decide +kernel)]; exact ⟨rfl, rfl⟩))
    (fun os started H enc _ F => by rw [OpenClaim.pre_eq_preRow]; exact lifted os started H enc F)

theorem plain (f : FuncId) (fn : Func) (hf : Tryz.pinned.checked.prog.funcNamed "barcarole/barcarolelaw02.MoneyMatchesReference" = some f) (hfn : Tryz.pinned.checked.prog.funcs[f]? = some fn) :
    true = Tryz.pinned.checked.prog.looks [] ∧ ∀ (j : Nat) t, fn.params[j]? = some t → Tryz.pinned.checked.prog.wantsStandIn t = false := by
  obtain rfl : f = 3 := Option.some.inj ((show Tryz.prog.funcNamed "barcarole/barcarolelaw02.MoneyMatchesReference" = some 3 by kernel_rfl).symm.trans hf) |>.symm
  obtain rfl : fn = Tryz.f3 := (Option.some.inj (Tryz.func3.symm.trans hfn)).symm
  refine ⟨by kernel_rfl, fun j t ht => ?_⟩
  rw [Tryz.params3] at ht
  have ht' : t = 22 ∨ t = 24 ∨ t = 3 ∨ t = 9 := by
    have := Array.mem_of_getElem? ht
    simp at this
    first | omega | (rcases this with h | h | h | h | h | h | h <;> simp [h]) | (rcases this with h | h | h | h | h | h <;> simp [h]) | (rcases this with h | h | h | h | h <;> simp [h]) | (rcases this with h | h | h | h <;> simp [h]) | (rcases this with h | h | h <;> simp [h]) | (rcases this with h | h <;> simp [h])
  rcases ht' with rfl | rfl | rfl | rfl
  · exact (show Tryz.prog.wantsStandIn 22 = false by kernel_rfl)
  · exact (show Tryz.prog.wantsStandIn 24 = false by kernel_rfl)
  · exact (show Tryz.prog.wantsStandIn 3 = false by kernel_rfl)
  · exact (show Tryz.prog.wantsStandIn 9 = false by kernel_rfl)

/-- The statement. -/
theorem card : Rows.MoneyMatchesReferenceCardSaid :=
  Claim7.holds_tied_plain_at .later [] _ _ _ _ said (fun _ h => by cases h) (by kernel_rfl) (fun _ h => by cases h) moneyMatchesReference_row_tie rfl ⟨rfl, rfl⟩ (by kernel_rfl) rfl plain (by kernel_rfl)
end Go.Proofs.YtanncjkkaeeiaaaGreatDoor.moneyMatchesReference
