/-
  RationalMatchesReference: all functions of package rational return what the reference returns: for any pairs of ints, ints and any string, of at most 1048576 values and letters together.
  Conditions: the package variables of the library that the row lists hold what the program's text lays.
-/
import Derived.Test.YtpmlfchbihoflaaDoorRatY
import Derived.Test.YtpmlfchbihoflaaDoorCards
import Derived.Test.YtpmlfchbihoflaaDoorTie
import Derived.Deep.DeepCutAuto
import Derived.Test.YtpmlfchbihoflaaDoorRatRK
namespace Go.Proofs.YtpmlfchbihoflaaDoor.rationalMatchesReference
open Go.RowKit Go.Sort
open Go.RowKit (Below)
set_option linter.unusedVariables false

/-- What the walk needs of the results. -/
structure Res (aN aD bN bD n d : Int) (s : ByteArray) (vb : Bool) (xN xD xE yN yD yE zN zD zE uN uD uE vN vD vE cR cE fR fE pN pD pE tE : Int) (tR : ByteArray) : Prop where
  valid : ∀ W, Calls Tryd.prog 6 #[.agg #[.int .i64 aN, .int .i64 aD]] W fun e w' => e = .returned (.bool vb) ∧ Below W.heap.size W w'
  rvalid : ∀ W, Calls Tryd.prog 7 #[.agg #[.int .i64 aN, .int .i64 aD]] W fun e w' => e = .returned (.bool vb) ∧ Below W.heap.size W w'
  make : ∀ W, Calls Tryd.prog 8 #[.int .i64 n, .int .i64 d] W fun e w' => e = .returned (.tuple #[.agg #[.int .i64 xN, .int .i64 xD], .int .i64 xE]) ∧ Below W.heap.size W w'
  rmake : ∀ W, Calls Tryd.prog 9 #[.int .i64 n, .int .i64 d] W fun e w' => e = .returned (.tuple #[.agg #[.int .i64 xN, .int .i64 xD], .int .i64 xE]) ∧ Below W.heap.size W w'
  add : ∀ W, Calls Tryd.prog 10 #[.agg #[.int .i64 aN, .int .i64 aD], .agg #[.int .i64 bN, .int .i64 bD]] W fun e w' => e = .returned (.tuple #[.agg #[.int .i64 yN, .int .i64 yD], .int .i64 yE]) ∧ Below W.heap.size W w'
  radd : ∀ W, Calls Tryd.prog 11 #[.agg #[.int .i64 aN, .int .i64 aD], .agg #[.int .i64 bN, .int .i64 bD]] W fun e w' => e = .returned (.tuple #[.agg #[.int .i64 yN, .int .i64 yD], .int .i64 yE]) ∧ Below W.heap.size W w'
  sub : ∀ W, Calls Tryd.prog 12 #[.agg #[.int .i64 aN, .int .i64 aD], .agg #[.int .i64 bN, .int .i64 bD]] W fun e w' => e = .returned (.tuple #[.agg #[.int .i64 zN, .int .i64 zD], .int .i64 zE]) ∧ Below W.heap.size W w'
  rsub : ∀ W, Calls Tryd.prog 13 #[.agg #[.int .i64 aN, .int .i64 aD], .agg #[.int .i64 bN, .int .i64 bD]] W fun e w' => e = .returned (.tuple #[.agg #[.int .i64 zN, .int .i64 zD], .int .i64 zE]) ∧ Below W.heap.size W w'
  mul : ∀ W, Calls Tryd.prog 14 #[.agg #[.int .i64 aN, .int .i64 aD], .agg #[.int .i64 bN, .int .i64 bD]] W fun e w' => e = .returned (.tuple #[.agg #[.int .i64 uN, .int .i64 uD], .int .i64 uE]) ∧ Below W.heap.size W w'
  rmul : ∀ W, Calls Tryd.prog 15 #[.agg #[.int .i64 aN, .int .i64 aD], .agg #[.int .i64 bN, .int .i64 bD]] W fun e w' => e = .returned (.tuple #[.agg #[.int .i64 uN, .int .i64 uD], .int .i64 uE]) ∧ Below W.heap.size W w'
  div : ∀ W, Calls Tryd.prog 16 #[.agg #[.int .i64 aN, .int .i64 aD], .agg #[.int .i64 bN, .int .i64 bD]] W fun e w' => e = .returned (.tuple #[.agg #[.int .i64 vN, .int .i64 vD], .int .i64 vE]) ∧ Below W.heap.size W w'
  rdiv : ∀ W, Calls Tryd.prog 17 #[.agg #[.int .i64 aN, .int .i64 aD], .agg #[.int .i64 bN, .int .i64 bD]] W fun e w' => e = .returned (.tuple #[.agg #[.int .i64 vN, .int .i64 vD], .int .i64 vE]) ∧ Below W.heap.size W w'
  cmp : ∀ W, Calls Tryd.prog 18 #[.agg #[.int .i64 aN, .int .i64 aD], .agg #[.int .i64 bN, .int .i64 bD]] W fun e w' => e = .returned (.tuple #[.int .i64 cR, .int .i64 cE]) ∧ Below W.heap.size W w'
  rcmp : ∀ W, Calls Tryd.prog 19 #[.agg #[.int .i64 aN, .int .i64 aD], .agg #[.int .i64 bN, .int .i64 bD]] W fun e w' => e = .returned (.tuple #[.int .i64 cR, .int .i64 cE]) ∧ Below W.heap.size W w'
  floor : ∀ W, Calls Tryd.prog 20 #[.agg #[.int .i64 aN, .int .i64 aD]] W fun e w' => e = .returned (.tuple #[.int .i64 fR, .int .i64 fE]) ∧ Below W.heap.size W w'
  rfloor : ∀ W, Calls Tryd.prog 21 #[.agg #[.int .i64 aN, .int .i64 aD]] W fun e w' => e = .returned (.tuple #[.int .i64 fR, .int .i64 fE]) ∧ Below W.heap.size W w'
  text : ∀ W, St W → Calls Tryd.prog 22 #[.agg #[.int .i64 aN, .int .i64 aD]] W fun e w' => e = .returned (.tuple #[.string tR, .int .i64 tE]) ∧ Below W.heap.size W w'
  rtext : ∀ W, Calls Tryd.prog 23 #[.agg #[.int .i64 aN, .int .i64 aD]] W fun e w' => e = .returned (.tuple #[.string tR, .int .i64 tE]) ∧ Below W.heap.size W w'
  parse : ∀ W, St W → Calls Tryd.prog 24 #[.string s] W fun e w' => e = .returned (.tuple #[.agg #[.int .i64 pN, .int .i64 pD], .int .i64 pE]) ∧ Below W.heap.size W w'
  rparse : ∀ W, Calls Tryd.prog 25 #[.string s] W fun e w' => e = .returned (.tuple #[.agg #[.int .i64 pN, .int .i64 pD], .int .i64 pE]) ∧ Below W.heap.size W w'

theorem res (aN aD bN bD n d : Int) (s : ByteArray) (iaN : I64 aN) (iaD : I64 aD) (ibN : I64 bN) (ibD : I64 bD) (i1 : I64 n) (i2 : I64 d) (hl : s.size < 140737488355328) : ∃ vb xN xD xE yN yD yE zN zD zE uN uD uE vN vD vE cR cE fR fE pN pD pE tE tR, Res aN aD bN bD n d s vb xN xD xE yN yD yE zN zD zE uN uD uE vN vD vE cR cE fR fE pN pD pE tE tR :=
  ⟨_, _, _, _, _, _, _, _, _, _, _, _, _, _, _, _, _, _, _, _, _, _, _, _, _,
   { valid := fun W => valid_b aN aD _ rfl W iaN iaD, rvalid := fun W => refvalid_any aN aD W iaN iaD,
      make := fun W => make_any n d W i1 i2, rmake := fun W => refmake_any n d W i1 i2,
      add := fun W => add_any aN aD bN bD W iaN iaD ibN ibD, radd := fun W => refadd_any aN aD bN bD W iaN iaD ibN ibD,
      sub := fun W => sub_any aN aD bN bD W iaN iaD ibN ibD, rsub := fun W => refsub_any aN aD bN bD W iaN iaD ibN ibD,
      mul := fun W => mul_any aN aD bN bD W iaN iaD ibN ibD, rmul := fun W => refmul_any aN aD bN bD W iaN iaD ibN ibD,
      div := fun W => div_any aN aD bN bD W iaN iaD ibN ibD, rdiv := fun W => refdiv_any aN aD bN bD W iaN iaD ibN ibD,
      cmp := fun W => cmp_any aN aD bN bD W iaN iaD ibN ibD, rcmp := fun W => refcmp_any aN aD bN bD W iaN iaD ibN ibD,
      floor := fun W => floor_any aN aD W iaN iaD, rfloor := fun W => reffloor_any aN aD W iaN iaD,
      text := fun W hW => text_any aN aD W iaN iaD hW, rtext := fun W => reftext_any aN aD W iaN iaD,
      parse := fun W hW => parse_any s W hW hl, rparse := fun W => refparse_any s W hl}⟩

set_option maxRecDepth 100000 in
set_option maxHeartbeats 8000000 in
theorem ok (aN aD bN bD n d : Int) (s : ByteArray) (w : World) (hs : St w) (vb : Bool) (xN xD xE yN yD yE zN zD zE uN uD uE vN vD vE cR cE fR fE pN pD pE tE : Int) (tR : ByteArray) (r : Res aN aD bN bD n d s vb xN xD xE yN yD yE zN zD zE uN uD uE vN vD vE cR cE fR fE pN pD pE tE tR) :
    Calls Tryd.prog 3 #[.agg #[.int .i64 aN, .int .i64 aD], .agg #[.int .i64 bN, .int .i64 bD], .int .i64 n, .int .i64 d, .string s] w fun e w' => e = .returned (.bool true) ∧ Below w.heap.size w w' := by
  have HR := Lib.hid r; clear r
  have HS0 := Lib.hid hs; clear hs
  obtain ⟨B0, pa, pb⟩ := box2 w aN aD bN bD 23
  have HS := Lib.hid (HS0.out.below B0 HS0.out.sz)
  clear HS0
  go_enter Tryd.func3, Tryd.ntmps3
  go_wp2_with fail
  generalize ((w.alloc (.cells #[.int .i64 aN, .int .i64 aD] 23)).alloc (.cells #[.int .i64 bN, .int .i64 bD] 23)) = w0 at *
  have ⟨pa0, pa1⟩ := pa
  have ⟨pb0, pb1⟩ := pb
  go_region_held3 (fun w' => w'.cell? ⟨w.heap.size, 0, none⟩ = some (.int .i64 aN) ∧ w'.cell? ⟨w.heap.size, 1, none⟩ = some (.int .i64 aD) ∧ w'.cell? ⟨w.heap.size + 1, 0, none⟩ = some (.int .i64 bN) ∧ w'.cell? ⟨w.heap.size + 1, 1, none⟩ = some (.int .i64 bD) ∧ Below w0.heap.size w0 w')
    (first | exact ⟨by simp [go_sem, pa0], by simp [go_sem, pa1], by simp [go_sem, pb0], by simp [go_sem, pb1], (Below.refl _ _).drew⟩ | (go_split_ands; exact ⟨(Pr.on (g := w.heap.size) (N := aN) (D := aD) ⟨by assumption, by assumption⟩ hb).1, (Pr.on (g := w.heap.size) (N := aN) (D := aD) ⟨by assumption, by assumption⟩ hb).2, (Pr.on (g := (w.heap.size + 1)) (N := bN) (D := bD) ⟨by assumption, by assumption⟩ hb).1, (Pr.on (g := (w.heap.size + 1)) (N := bN) (D := bD) ⟨by assumption, by assumption⟩ hb).2, (on_same (w := w0) (by assumption) hb).1⟩))
    (first | (go_at_call 5; refine (head_any _ ?_).mono ?_; (go_split_ands; exact HS.out.below (by assumption) HS.out.sz); rintro e w1 ⟨rfl, hb⟩) | (go_at_call 6; refine (HR.out.valid _).mono ?_; rintro e w1 ⟨rfl, hb⟩) | (go_at_call 7; refine (HR.out.rvalid _).mono ?_; rintro e w1 ⟨rfl, hb⟩))
  go_split_ands
  replace pa : Pr w1 w.heap.size aN aD := ⟨by assumption, by assumption⟩
  replace pb : Pr w1 (w.heap.size + 1) bN bD := ⟨by assumption, by assumption⟩
  have B1 : Below w0.heap.size w0 w1 := by assumption
  clear pa0 pa1 pb0 pb1
  have qx := fun W => rat_yes (a := xN) (b := xD) (c := xN) (d := xD) ⟨rfl, rfl⟩ W
  have qy := fun W => rat_yes (a := yN) (b := yD) (c := yN) (d := yD) ⟨rfl, rfl⟩ W
  have qz := fun W => rat_yes (a := zN) (b := zD) (c := zN) (d := zD) ⟨rfl, rfl⟩ W
  have qu := fun W => rat_yes (a := uN) (b := uD) (c := uN) (d := uD) ⟨rfl, rfl⟩ W
  have qv := fun W => rat_yes (a := vN) (b := vD) (c := vN) (d := vD) ⟨rfl, rfl⟩ W
  have qp := fun W => rat_yes (a := pN) (b := pD) (c := pN) (d := pD) ⟨rfl, rfl⟩ W
  have ⟨pa0, pa1⟩ := pa
  have pal := pa.lt
  have ⟨pb0, pb1⟩ := pb
  have pbl := pb.lt
  go_wp2_with fail
  clear pa0 pa1 pal
  clear pb0 pb1 pbl
  refine (HR.out.make _).mono ?_
  rintro e w2 ⟨rfl, hb⟩
  obtain ⟨B2, z2⟩ := on_same B1 hb
  replace pa := pa.on hb
  replace pb := pb.on hb
  clear hb z2
  have ⟨pa0, pa1⟩ := pa
  have pal := pa.lt
  have ⟨pb0, pb1⟩ := pb
  have pbl := pb.lt
  go_wp2_with fail
  clear pa0 pa1 pal
  clear pb0 pb1 pbl
  refine (HR.out.rmake _).mono ?_
  rintro e w3 ⟨rfl, hb⟩
  obtain ⟨B3, z3⟩ := on_new B2 hb
  have papx : w.heap.size ≠ w2.heap.size := Nat.ne_of_lt pa.lt
  have pbpx : (w.heap.size + 1) ≠ w2.heap.size := Nat.ne_of_lt pb.lt
  have pxh : w0.heap.size ≤ w2.heap.size := B2.size
  replace pa := pa.next hb
  replace pb := pb.next hb
  have px := Lc.new hb
  clear hb z3
  have ⟨pa0, pa1⟩ := pa
  have pal := pa.lt
  have ⟨pb0, pb1⟩ := pb
  have pbl := pb.lt
  have ⟨⟨px0, px1⟩, pxf0, pxf1⟩ := px
  have pxl := px.lt
  go_wp2_with fail
  clear pa0 pa1 pal
  clear pb0 pb1 pbl
  clear px0 px1 pxl
  clear pxf0 pxf1
  refine (HR.out.add _).mono ?_
  rintro e w4 ⟨rfl, hb⟩
  obtain ⟨B4, z4⟩ := on_new B3 hb
  have papy : w.heap.size ≠ w3.heap.size := Nat.ne_of_lt pa.lt
  have pbpy : (w.heap.size + 1) ≠ w3.heap.size := Nat.ne_of_lt pb.lt
  have pxpy : w2.heap.size ≠ w3.heap.size := Nat.ne_of_lt px.lt
  have pyh : w0.heap.size ≤ w3.heap.size := B3.size
  replace pa := pa.next hb
  replace pb := pb.next hb
  replace px := px.next hb
  have py := Lc.new hb
  clear hb z4
  have ⟨pa0, pa1⟩ := pa
  have pal := pa.lt
  have ⟨pb0, pb1⟩ := pb
  have pbl := pb.lt
  have ⟨⟨px0, px1⟩, pxf0, pxf1⟩ := px
  have pxl := px.lt
  have ⟨⟨py0, py1⟩, pyf0, pyf1⟩ := py
  have pyl := py.lt
  go_wp2_with fail
  clear pa0 pa1 pal
  clear pb0 pb1 pbl
  clear px0 px1 pxl
  clear pxf0 pxf1
  clear py0 py1 pyl
  clear pyf0 pyf1
  refine (HR.out.radd _).mono ?_
  rintro e w5 ⟨rfl, hb⟩
  obtain ⟨B5, z5⟩ := on_set B4 pxh hb
  replace pa := (pa.set papx).on hb
  replace pb := (pb.set pbpx).on hb
  replace px := px.put.on hb
  replace py := (py.set (Ne.symm pxpy)).on hb
  clear hb z5
  have ⟨pa0, pa1⟩ := pa
  have pal := pa.lt
  have ⟨pb0, pb1⟩ := pb
  have pbl := pb.lt
  have ⟨⟨px0, px1⟩, pxf0, pxf1⟩ := px
  have pxl := px.lt
  have ⟨⟨py0, py1⟩, pyf0, pyf1⟩ := py
  have pyl := py.lt
  go_wp2_with fail
  clear pa0 pa1 pal
  clear pb0 pb1 pbl
  clear px0 px1 pxl
  clear pxf0 pxf1
  clear py0 py1 pyl
  clear pyf0 pyf1
  refine (HR.out.sub _).mono ?_
  rintro e w6 ⟨rfl, hb⟩
  obtain ⟨B6, z6⟩ := on_set B5 pyh hb
  replace pa := (pa.set papy).on hb
  replace pb := (pb.set pbpy).on hb
  replace px := (px.set pxpy).on hb
  replace py := py.put.on hb
  clear hb z6
  have ⟨pa0, pa1⟩ := pa
  have pal := pa.lt
  have ⟨pb0, pb1⟩ := pb
  have pbl := pb.lt
  have ⟨⟨px0, px1⟩, pxf0, pxf1⟩ := px
  have pxl := px.lt
  have ⟨⟨py0, py1⟩, pyf0, pyf1⟩ := py
  have pyl := py.lt
  go_wp2_with fail
  clear pa0 pa1 pal
  clear pb0 pb1 pbl
  clear px0 px1 pxl
  clear pxf0 pxf1
  clear py0 py1 pyl
  clear pyf0 pyf1
  refine (HR.out.rsub _).mono ?_
  rintro e w7 ⟨rfl, hb⟩
  obtain ⟨B7, z7⟩ := on_set B6 pxh hb
  replace pa := (pa.set papx).on hb
  replace pb := (pb.set pbpx).on hb
  replace px := px.put.on hb
  replace py := (py.set (Ne.symm pxpy)).on hb
  clear hb z7
  have ⟨pa0, pa1⟩ := pa
  have pal := pa.lt
  have ⟨pb0, pb1⟩ := pb
  have pbl := pb.lt
  have ⟨⟨px0, px1⟩, pxf0, pxf1⟩ := px
  have pxl := px.lt
  have ⟨⟨py0, py1⟩, pyf0, pyf1⟩ := py
  have pyl := py.lt
  go_wp2_with fail
  clear pa0 pa1 pal
  clear pb0 pb1 pbl
  clear px0 px1 pxl
  clear pxf0 pxf1
  clear py0 py1 pyl
  clear pyf0 pyf1
  refine (HR.out.mul _).mono ?_
  rintro e w8 ⟨rfl, hb⟩
  obtain ⟨B8, z8⟩ := on_set B7 pyh hb
  replace pa := (pa.set papy).on hb
  replace pb := (pb.set pbpy).on hb
  replace px := (px.set pxpy).on hb
  replace py := py.put.on hb
  clear hb z8
  have ⟨pa0, pa1⟩ := pa
  have pal := pa.lt
  have ⟨pb0, pb1⟩ := pb
  have pbl := pb.lt
  have ⟨⟨px0, px1⟩, pxf0, pxf1⟩ := px
  have pxl := px.lt
  have ⟨⟨py0, py1⟩, pyf0, pyf1⟩ := py
  have pyl := py.lt
  go_wp2_with fail
  clear pa0 pa1 pal
  clear pb0 pb1 pbl
  clear px0 px1 pxl
  clear pxf0 pxf1
  clear py0 py1 pyl
  clear pyf0 pyf1
  refine (HR.out.rmul _).mono ?_
  rintro e w9 ⟨rfl, hb⟩
  obtain ⟨B9, z9⟩ := on_set B8 pxh hb
  replace pa := (pa.set papx).on hb
  replace pb := (pb.set pbpx).on hb
  replace px := px.put.on hb
  replace py := (py.set (Ne.symm pxpy)).on hb
  clear hb z9
  have ⟨pa0, pa1⟩ := pa
  have pal := pa.lt
  have ⟨pb0, pb1⟩ := pb
  have pbl := pb.lt
  have ⟨⟨px0, px1⟩, pxf0, pxf1⟩ := px
  have pxl := px.lt
  have ⟨⟨py0, py1⟩, pyf0, pyf1⟩ := py
  have pyl := py.lt
  go_wp2_with fail
  clear pa0 pa1 pal
  clear pb0 pb1 pbl
  clear px0 px1 pxl
  clear pxf0 pxf1
  clear py0 py1 pyl
  clear pyf0 pyf1
  refine (HR.out.div _).mono ?_
  rintro e w10 ⟨rfl, hb⟩
  obtain ⟨B10, z10⟩ := on_set B9 pyh hb
  replace pa := (pa.set papy).on hb
  replace pb := (pb.set pbpy).on hb
  replace px := (px.set pxpy).on hb
  replace py := py.put.on hb
  clear hb z10
  have ⟨pa0, pa1⟩ := pa
  have pal := pa.lt
  have ⟨pb0, pb1⟩ := pb
  have pbl := pb.lt
  have ⟨⟨px0, px1⟩, pxf0, pxf1⟩ := px
  have pxl := px.lt
  have ⟨⟨py0, py1⟩, pyf0, pyf1⟩ := py
  have pyl := py.lt
  go_wp2_with fail
  clear pa0 pa1 pal
  clear pb0 pb1 pbl
  clear px0 px1 pxl
  clear pxf0 pxf1
  clear py0 py1 pyl
  clear pyf0 pyf1
  refine (HR.out.rdiv _).mono ?_
  rintro e w11 ⟨rfl, hb⟩
  obtain ⟨B11, z11⟩ := on_set B10 pxh hb
  replace pa := (pa.set papx).on hb
  replace pb := (pb.set pbpx).on hb
  replace px := px.put.on hb
  replace py := (py.set (Ne.symm pxpy)).on hb
  clear hb z11
  have ⟨pa0, pa1⟩ := pa
  have pal := pa.lt
  have ⟨pb0, pb1⟩ := pb
  have pbl := pb.lt
  have ⟨⟨px0, px1⟩, pxf0, pxf1⟩ := px
  have pxl := px.lt
  have ⟨⟨py0, py1⟩, pyf0, pyf1⟩ := py
  have pyl := py.lt
  go_wp2_with fail
  clear pa0 pa1 pal
  clear pb0 pb1 pbl
  clear px0 px1 pxl
  clear pxf0 pxf1
  clear py0 py1 pyl
  clear pyf0 pyf1
  refine (HR.out.cmp _).mono ?_
  rintro e w12 ⟨rfl, hb⟩
  obtain ⟨B12, z12⟩ := on_set B11 pyh hb
  replace pa := (pa.set papy).on hb
  replace pb := (pb.set pbpy).on hb
  replace px := (px.set pxpy).on hb
  replace py := py.put.on hb
  clear hb z12
  have ⟨pa0, pa1⟩ := pa
  have pal := pa.lt
  have ⟨pb0, pb1⟩ := pb
  have pbl := pb.lt
  have ⟨⟨px0, px1⟩, pxf0, pxf1⟩ := px
  have pxl := px.lt
  have ⟨⟨py0, py1⟩, pyf0, pyf1⟩ := py
  have pyl := py.lt
  go_wp2_with fail
  clear pa0 pa1 pal
  clear pb0 pb1 pbl
  clear px0 px1 pxl
  clear pxf0 pxf1
  clear py0 py1 pyl
  clear pyf0 pyf1
  refine (HR.out.rcmp _).mono ?_
  rintro e w13 ⟨rfl, hb⟩
  obtain ⟨B13, z13⟩ := on_same B12 hb
  replace pa := pa.on hb
  replace pb := pb.on hb
  replace px := px.on hb
  replace py := py.on hb
  clear hb z13
  have ⟨pa0, pa1⟩ := pa
  have pal := pa.lt
  have ⟨pb0, pb1⟩ := pb
  have pbl := pb.lt
  have ⟨⟨px0, px1⟩, pxf0, pxf1⟩ := px
  have pxl := px.lt
  have ⟨⟨py0, py1⟩, pyf0, pyf1⟩ := py
  have pyl := py.lt
  go_wp2_with fail
  clear pa0 pa1 pal
  clear pb0 pb1 pbl
  clear px0 px1 pxl
  clear pxf0 pxf1
  clear py0 py1 pyl
  clear pyf0 pyf1
  refine (HR.out.floor _).mono ?_
  rintro e w14 ⟨rfl, hb⟩
  obtain ⟨B14, z14⟩ := on_same B13 hb
  replace pa := pa.on hb
  replace pb := pb.on hb
  replace px := px.on hb
  replace py := py.on hb
  clear hb z14
  have ⟨pa0, pa1⟩ := pa
  have pal := pa.lt
  have ⟨pb0, pb1⟩ := pb
  have pbl := pb.lt
  have ⟨⟨px0, px1⟩, pxf0, pxf1⟩ := px
  have pxl := px.lt
  have ⟨⟨py0, py1⟩, pyf0, pyf1⟩ := py
  have pyl := py.lt
  go_wp2_with fail
  clear pa0 pa1 pal
  clear pb0 pb1 pbl
  clear px0 px1 pxl
  clear pxf0 pxf1
  clear py0 py1 pyl
  clear pyf0 pyf1
  refine (HR.out.rfloor _).mono ?_
  rintro e w15 ⟨rfl, hb⟩
  obtain ⟨B15, z15⟩ := on_same B14 hb
  replace pa := pa.on hb
  replace pb := pb.on hb
  replace px := px.on hb
  replace py := py.on hb
  clear hb z15
  have ⟨pa0, pa1⟩ := pa
  have pal := pa.lt
  have ⟨pb0, pb1⟩ := pb
  have pbl := pb.lt
  have ⟨⟨px0, px1⟩, pxf0, pxf1⟩ := px
  have pxl := px.lt
  have ⟨⟨py0, py1⟩, pyf0, pyf1⟩ := py
  have pyl := py.lt
  go_wp2_with fail
  clear pa0 pa1 pal
  clear pb0 pb1 pbl
  clear px0 px1 pxl
  clear pxf0 pxf1
  clear py0 py1 pyl
  clear pyf0 pyf1
  refine (HR.out.text _ (HS.out.below B15 HS.out.sz)).mono ?_
  rintro e w16 ⟨rfl, hb⟩
  obtain ⟨B16, z16⟩ := on_same B15 hb
  replace pa := pa.on hb
  replace pb := pb.on hb
  replace px := px.on hb
  replace py := py.on hb
  clear hb z16
  have ⟨pa0, pa1⟩ := pa
  have pal := pa.lt
  have ⟨pb0, pb1⟩ := pb
  have pbl := pb.lt
  have ⟨⟨px0, px1⟩, pxf0, pxf1⟩ := px
  have pxl := px.lt
  have ⟨⟨py0, py1⟩, pyf0, pyf1⟩ := py
  have pyl := py.lt
  go_wp2_with fail
  clear pa0 pa1 pal
  clear pb0 pb1 pbl
  clear px0 px1 pxl
  clear pxf0 pxf1
  clear py0 py1 pyl
  clear pyf0 pyf1
  refine (HR.out.rtext _).mono ?_
  rintro e w17 ⟨rfl, hb⟩
  obtain ⟨B17, z17⟩ := on_same B16 hb
  replace pa := pa.on hb
  replace pb := pb.on hb
  replace px := px.on hb
  replace py := py.on hb
  clear hb z17
  have ⟨pa0, pa1⟩ := pa
  have pal := pa.lt
  have ⟨pb0, pb1⟩ := pb
  have pbl := pb.lt
  have ⟨⟨px0, px1⟩, pxf0, pxf1⟩ := px
  have pxl := px.lt
  have ⟨⟨py0, py1⟩, pyf0, pyf1⟩ := py
  have pyl := py.lt
  go_wp2_with fail
  clear pa0 pa1 pal
  clear pb0 pb1 pbl
  clear px0 px1 pxl
  clear pxf0 pxf1
  clear py0 py1 pyl
  clear pyf0 pyf1
  refine (HR.out.parse _ (HS.out.below B17 HS.out.sz)).mono ?_
  rintro e w18 ⟨rfl, hb⟩
  obtain ⟨B18, z18⟩ := on_same B17 hb
  replace pa := pa.on hb
  replace pb := pb.on hb
  replace px := px.on hb
  replace py := py.on hb
  clear hb z18
  have ⟨pa0, pa1⟩ := pa
  have pal := pa.lt
  have ⟨pb0, pb1⟩ := pb
  have pbl := pb.lt
  have ⟨⟨px0, px1⟩, pxf0, pxf1⟩ := px
  have pxl := px.lt
  have ⟨⟨py0, py1⟩, pyf0, pyf1⟩ := py
  have pyl := py.lt
  go_wp2_with fail
  clear pa0 pa1 pal
  clear pb0 pb1 pbl
  clear px0 px1 pxl
  clear pxf0 pxf1
  clear py0 py1 pyl
  clear pyf0 pyf1
  refine (HR.out.rparse _).mono ?_
  rintro e w19 ⟨rfl, hb⟩
  obtain ⟨B19, z19⟩ := on_set B18 pxh hb
  replace pa := (pa.set papx).on hb
  replace pb := (pb.set pbpx).on hb
  replace px := px.put.on hb
  replace py := (py.set (Ne.symm pxpy)).on hb
  clear hb z19
  have ⟨pa0, pa1⟩ := pa
  have pal := pa.lt
  have ⟨pb0, pb1⟩ := pb
  have pbl := pb.lt
  have ⟨⟨px0, px1⟩, pxf0, pxf1⟩ := px
  have pxl := px.lt
  have ⟨⟨py0, py1⟩, pyf0, pyf1⟩ := py
  have pyl := py.lt
  go_wp2_with fail
  clear pa0 pa1 pal
  clear pb0 pb1 pbl
  clear px0 px1 pxl
  clear pxf0 pxf1
  clear py0 py1 pyl
  clear pyf0 pyf1
  go_ret
  exact ⟨rfl, B0.trans (((B19.setCell pyh _).setCell pyh _).mono B0.size)⟩

theorem walk (aN aD bN bD n d : Int) (s : ByteArray) (iaN : I64 aN) (iaD : I64 aD) (ibN : I64 bN) (ibD : I64 bD) (i1 : I64 n) (i2 : I64 d) (w : World) (hs : St w) (hl : s.size < 140737488355328) :
    Calls Tryd.prog 3 #[.agg #[.int .i64 aN, .int .i64 aD], .agg #[.int .i64 bN, .int .i64 bD], .int .i64 n, .int .i64 d, .string s] w fun e w' => e = .returned (.bool true) ∧ Below w.heap.size w w' := by
  obtain ⟨_, _, _, _, _, _, _, _, _, _, _, _, _, _, _, _, _, _, _, _, _, _, _, _, _, r⟩ := res aN aD bN bD n d s iaN iaD ibN ibD i1 i2 hl
  exact ok aN aD bN bD n d s w hs _ _ _ _ _ _ _ _ _ _ _ _ _ _ _ _ _ _ _ _ _ _ _ _ _ r

/-! ### The row and the card -/
open Go.ChangeShapes Go.WideShapes Go.ChangeAt
open Go.ChangeMaps (open_string shut_string)

set_option maxRecDepth 100000 in
theorem contract (H : Type) (enc : TypeId × Value → H) (W : World) (base : Nat) (args : Array Value) (ds gs : List (DataW H)) (before : List MemPlace)
    (hval : ∀ (j : Nat) t v, Tryd.f3.params[j]? = some t → args[j]? = some v → Value.okWide Tryd.prog W .any base t v)
    (hW : DataW.Whole enc Tryd.prog Tryd.f3.params.toList Rows.rationalMatchesReferenceSpec.vars false W args.toList ds gs before) (hr : (DataW.weightsEach Tryd.prog (Tryd.f3.params.toList ++ (OpenSpec.ofChange Rows.rationalMatchesReferenceSpec).bare.plain.varTypes Tryd.prog) (ds ++ gs)).all (· ≤ reachBytes) = true) (hL : laidMetH Tryd.prog laid5 W) (hsh : W.ShapedOpen Tryd.prog) :
    Calls Tryd.prog 3 args W fun e W' => ∃ v, e = .returned v ∧ Rows.rationalMatchesReferenceSpec.post enc Tryd.prog Tryd.f3 false true false false W args v W' := by
  have hW' := hW
  obtain ⟨p, q, hA0, hV, rfl, hfz, hnd⟩ := hW
  have hA : DataW.TrodAll enc Tryd.prog W 0 (fun _ => true) true Tryd.f3.params.toList args.toList ds p := hA0
  rw [Tryd.params3] at hA hval
  obtain ⟨v0, vs0, d0, ds0, p0, q0, hargs, rfl, rfl, h0, r0⟩ := trodAll_cons hA
  obtain ⟨v1, vs1, d1, ds1, p1, q1, rfl, rfl, rfl, h1, r1⟩ := trodAll_cons r0
  obtain ⟨v2, vs2, d2, ds2, p2, q2, rfl, rfl, rfl, h2, r2⟩ := trodAll_cons r1
  obtain ⟨v3, vs3, d3, ds3, p3, q3, rfl, rfl, rfl, h3, r3⟩ := trodAll_cons r2
  obtain ⟨v4, vs4, d4, ds4, p4, q4, rfl, rfl, rfl, h4, r4⟩ := trodAll_cons r3
  obtain ⟨rfl, rfl, rfl⟩ := trodAll_nil r4
  obtain rfl : args = #[v0, v1, v2, v3, v4] := Array.toList_inj.1 hargs
  obtain ⟨rfl, rfl⟩ := trodVars_none hV
  obtain ⟨aN, aD, rfl, rfl, rfl, waN, waD⟩ := open_rat (hval 0 23 v0 rfl rfl) h0
  obtain ⟨bN, bD, rfl, rfl, rfl, wbN, wbD⟩ := open_rat (hval 1 23 v1 rfl rfl) h1
  obtain ⟨n, rfl, rfl, rfl, wn⟩ := open_int Tryd.underlying3 (hval 2 3 v2 rfl rfl) h2
  obtain ⟨d, rfl, rfl, rfl, wd⟩ := open_int Tryd.underlying3 (hval 3 3 v3 rfl rfl) h3
  obtain ⟨s, rfl, rfl, rfl, ws⟩ := open_string Tryd.underlying9 (hval 4 9 v4 rfl rfl) h4
  clear hA0
  have zs := sized_string (j := 4) (t := 9) hr rfl rfl
  have es : s.data.toList.length = s.size := by rw [Array.length_toList]; rfl
  rw [es] at zs
  have hz := reachBytes_lt
  refine (walk aN aD bN bD n d s (wf_i waN) (wf_i waD) (wf_i wbN) (wf_i wbD) (wf_i wn) (wf_i wd) W (st_of hL hsh) (by omega)).mono fun e W' ⟨he, bel⟩ => ?_
  subst he
  exact ⟨_, rfl, _, _, _, [], [], [], hW', trodAll_mk1 (shut_bool Tryd.underlying4 _), (trodAll_cons_mk (shut_rat waN waD) (trodAll_cons_mk (shut_rat wbN wbD) (trodAll_cons_mk (shut_int Tryd.underlying3 wn) (trodAll_cons_mk (shut_int Tryd.underlying3 wd) (trodAll_cons_mk (shut_string Tryd.underlying9 ws) trodAll_mk0))))), rfl, bel.frame _, fun h => by cases h⟩

theorem reads (os : Os) {H : Type} (enc : TypeId × Value → H) : ∃ places, DataW.whole enc Tryd.prog ((laidWorld os).forCall (fun _ _ => 0) ⟨#[], #[.agg #[.int .i64 0, .int .i64 0], .agg #[.int .i64 0, .int .i64 0], .int .i64 0, .int .i64 0, .string ⟨#[]⟩], []⟩).memory Tryd.f3.params.toList Rows.rationalMatchesReferenceSpec.vars false (#[.agg #[.int .i64 0, .int .i64 0], .agg #[.int .i64 0, .int .i64 0], .int .i64 0, .int .i64 0, .string ⟨#[]⟩] : Array Value).toList 8 = some ([.agg [.lit (.int .i64 0), .lit (.int .i64 0)], .agg [.lit (.int .i64 0), .lit (.int .i64 0)], .lit (.int .i64 0), .lit (.int .i64 0), .lit (.string [])], [], places) :=
  ⟨[], by kernel_rfl⟩

set_option maxRecDepth 100000 in
theorem lifted (os : Os) (started : os.Started) (H : Type) (enc : TypeId × Value → H) (F : Stop.Interp) :
    ReturnsInHanded {} Tryd.checked os 3 .any ((OpenSpec.ofChange Rows.rationalMatchesReferenceSpec).preRow enc Tryd.prog Tryd.f3 Rows.rationalMatchesReferenceRow.domain false Rows.rationalMatchesReferenceRow.laid) (((OpenSpec.ofChange Rows.rationalMatchesReferenceSpec).at F).post enc Tryd.prog Tryd.f3 false true false false) := by
  obtain ⟨places, hx⟩ := reads os enc
  refine returnsInHanded_of_row (C := Tryd.checked) (s := OpenSpec.ofChange Rows.rationalMatchesReferenceSpec) own started (by kernel_rfl) Tryd.func3
    (witness_row_atRef (enc := enc) (C := Tryd.checked) false (laidWorld os) #[.agg #[.int .i64 0, .int .i64 0], .agg #[.int .i64 0, .int .i64 0], .int .i64 0, .int .i64 0, .string ⟨#[]⟩] rfl (by kernel_rfl) (by kernel_rfl) (by kernel_rfl)
      (OpenSpec.preRow_of_cond 8 hx (by kernel_rfl) (fun k hk => by cases hk) (by kernel_rfl) (laidWorld_met os _))) ?_
  intro W base args ds gs before hval hW _ hcond hr hL hsh _
  exact contract H enc W base args ds gs before hval hW hr hL hsh

theorem said : Rows.RationalMatchesReferenceSaid :=
  OpenClaim.holds_of_cond 3 Tryd.f3 rfl rfl rfl rfl rfl rfl rfl ⟨rfl, rfl, rfl, rfl, rfl⟩ rfl rfl rfl rfl rfl (by kernel_rfl) Tryd.func3 (by kernel_rfl)
    (of_decide_eq_true (by kernel_rfl)) (by unfold Func.isWrapper; first | (rw [if_pos (by decide +kernel)]; kernel_rfl) | (rw [if_neg (by decide +kernel)]; exact ⟨rfl, rfl⟩))
    (fun os started H enc _ F => by rw [OpenClaim.pre_eq_preRow]; exact lifted os started H enc F)

theorem plain (f : FuncId) (fn : Func) (hf : Tryd.pinned.checked.prog.funcNamed "barcarole/barcarolelaw01.RationalMatchesReference" = some f) (hfn : Tryd.pinned.checked.prog.funcs[f]? = some fn) :
    true = Tryd.pinned.checked.prog.looks [] ∧ ∀ (j : Nat) t, fn.params[j]? = some t → Tryd.pinned.checked.prog.wantsStandIn t = false := by
  obtain rfl : f = 3 := Option.some.inj ((show Tryd.prog.funcNamed "barcarole/barcarolelaw01.RationalMatchesReference" = some 3 by kernel_rfl).symm.trans hf) |>.symm
  obtain rfl : fn = Tryd.f3 := (Option.some.inj (Tryd.func3.symm.trans hfn)).symm
  refine ⟨by kernel_rfl, fun j t ht => ?_⟩
  rw [Tryd.params3] at ht
  have ht' : t = 23 ∨ t = 3 ∨ t = 9 := by
    have := Array.mem_of_getElem? ht
    simp at this
    omega
  rcases ht' with rfl | rfl | rfl
  · exact (show Tryd.prog.wantsStandIn 23 = false by kernel_rfl)
  · exact (show Tryd.prog.wantsStandIn 3 = false by kernel_rfl)
  · exact (show Tryd.prog.wantsStandIn 9 = false by kernel_rfl)

/-- The statement. -/
theorem card : Rows.RationalMatchesReferenceCardSaid :=
  Claim7.holds_tied_plain_at .later [] _ _ _ _ said (fun _ h => by cases h) (by kernel_rfl) (fun _ h => by cases h) rationalMatchesReference_row_tie rfl ⟨rfl, rfl⟩ (by kernel_rfl) rfl plain (by kernel_rfl)
end Go.Proofs.YtpmlfchbihoflaaDoor.rationalMatchesReference
