/-
  The laws' head: the examples of the chapter.
-/
import Derived.Test.YtanncjkkaeeiaaaGreatDoorMonI
namespace Go.Proofs.YtanncjkkaeeiaaaGreatDoor
open Go.RowKit Go.Sort
open Go.RowKit (Below)
set_option linter.unusedVariables false

theorem hd_scale1 (W : World) : Calls Tryz.prog 8 #[.int .i64 7, .agg #[.int .i64 1, .int .i64 2]] W fun e w' => e = .returned (.tuple #[.int .i64 4, .int .i64 0]) ∧ Below W.heap.size W w' := by
  have h := scale_any 7 1 2 W (i64_of (by omega) (by omega)) (i64_of (by omega) (by omega))
  rwa [show sclN 7 1 2 = 4 by decide +kernel, show sclE 7 1 2 = 0 by decide +kernel] at h
theorem hd_scale2 (W : World) : Calls Tryz.prog 8 #[.int .i64 (-7), .agg #[.int .i64 1, .int .i64 2]] W fun e w' => e = .returned (.tuple #[.int .i64 (-4), .int .i64 0]) ∧ Below W.heap.size W w' := by
  have h := scale_any (-7) 1 2 W (i64_of (by omega) (by omega)) (i64_of (by omega) (by omega))
  rwa [show sclN (-7) 1 2 = -4 by decide +kernel, show sclE (-7) 1 2 = 0 by decide +kernel] at h
theorem hd_scale3 (W : World) : Calls Tryz.prog 8 #[.int .i64 4, .agg #[.int .i64 1, .int .i64 3]] W fun e w' => e = .returned (.tuple #[.int .i64 1, .int .i64 0]) ∧ Below W.heap.size W w' := by
  have h := scale_any 4 1 3 W (i64_of (by omega) (by omega)) (i64_of (by omega) (by omega))
  rwa [show sclN 4 1 3 = 1 by decide +kernel, show sclE 4 1 3 = 0 by decide +kernel] at h
theorem hd_exc1 (W : World) : Calls Tryz.prog 15 #[.int .i64 1000, .int .i64 0, .int .i64 1, .agg #[.int .i64 19, .int .i64 20]] W fun e w' => e = .returned (.tuple #[.int .i64 950, .int .i64 0]) ∧ Below W.heap.size W w' := by
  have h := exchange_any 1000 0 1 19 20 W (i64_of (by omega) (by omega)) (i64_of (by omega) (by omega))
  rwa [show excN 1000 0 1 19 20 = 950 by decide +kernel, show excE 1000 0 1 19 20 = 0 by decide +kernel] at h
theorem hd_exc2 (W : World) : Calls Tryz.prog 15 #[.int .i64 95, .int .i64 1, .int .i64 0, .agg #[.int .i64 19, .int .i64 20]] W fun e w' => e = .returned (.tuple #[.int .i64 100, .int .i64 0]) ∧ Below W.heap.size W w' := by
  have h := exchange_any 95 1 0 19 20 W (i64_of (by omega) (by omega)) (i64_of (by omega) (by omega))
  rwa [show excN 95 1 0 19 20 = 100 by decide +kernel, show excE 95 1 0 19 20 = 0 by decide +kernel] at h

theorem sl3 (w : World) (x y z : Int) (t : TypeId) : Sl (w.alloc (.cells #[.int .i64 x, .int .i64 y, .int .i64 z] t)) (some ⟨w.heap.size, 0, none⟩) [x, y, z] := by
  intro k hk
  refine ⟨_, _, rfl, ?_⟩
  have hk' : k = 0 ∨ k = 1 ∨ k = 2 := by simp at hk; omega
  rcases hk' with rfl | rfl | rfl <;> simp [go_sem, gd]

theorem hd_split (c x y z p q r : Int) (hc : am c = true) (hw : wts [x, y, z] = true) (h0 : sgd c (part c.natAbs [x, y, z] 0) = p) (h1 : sgd c (part c.natAbs [x, y, z] 1) = q) (h2 : sgd c (part c.natAbs [x, y, z] 2) = r) (w : World) (t : TypeId) :
    Calls Tryz.prog 10 #[.int .i64 c, .slice (some ⟨w.heap.size, 0, none⟩) 3 3] (w.alloc (.cells #[.int .i64 x, .int .i64 y, .int .i64 z] t)) fun e w' => ∃ pb, e = .returned (.tuple #[.slice (some ⟨pb, 0, none⟩) 3 3, .int .i64 0]) ∧ Row w' pb 3 (gd [p, q, r]) ∧ Below w.heap.size w w' := by
  refine (split_ok c (some ⟨w.heap.size, 0, none⟩) 3 [x, y, z] _ hc hw (sl3 w x y z t)).mono ?_
  rintro e w' ⟨pb, he, _, hrow, hbel⟩
  refine ⟨pb, he, hrow.congr fun j hj => ?_, ((Below.refl _ _).alloc (Nat.le_refl _) _).trans (hbel.mono (by simp))⟩
  have hj' : j = 0 ∨ j = 1 ∨ j = 2 := by simp at hj; omega
  rcases hj' with rfl | rfl | rfl
  · exact h0
  · exact h1
  · exact h2
theorem hd_split1 (w : World) (t : TypeId) : Calls Tryz.prog 10 #[.int .i64 100, .slice (some ⟨w.heap.size, 0, none⟩) 3 3] (w.alloc (.cells #[.int .i64 1, .int .i64 1, .int .i64 1] t)) fun e w' => ∃ pb, e = .returned (.tuple #[.slice (some ⟨pb, 0, none⟩) 3 3, .int .i64 0]) ∧ Row w' pb 3 (gd [34, 33, 33]) ∧ Below w.heap.size w w' :=
  hd_split 100 1 1 1 34 33 33 (by decide +kernel) (by decide +kernel) (by decide +kernel) (by decide +kernel) (by decide +kernel) w t
theorem hd_split2 (w : World) (t : TypeId) : Calls Tryz.prog 10 #[.int .i64 5, .slice (some ⟨w.heap.size, 0, none⟩) 3 3] (w.alloc (.cells #[.int .i64 1, .int .i64 2, .int .i64 3] t)) fun e w' => ∃ pb, e = .returned (.tuple #[.slice (some ⟨pb, 0, none⟩) 3 3, .int .i64 0]) ∧ Row w' pb 3 (gd [1, 2, 2]) ∧ Below w.heap.size w w' :=
  hd_split 5 1 2 3 1 2 2 (by decide +kernel) (by decide +kernel) (by decide +kernel) (by decide +kernel) (by decide +kernel) w t

theorem str_ext {a b : ByteArray} (h : a.data.toList = b.data.toList) : a = b := by
  cases a; cases b; simp only at h
  congr 1
  exact Array.toList_inj.1 h
theorem hd_text1 (W : World) (hs : St W) : Calls Tryz.prog 13 #[.int .i64 1205, .int .i64 0] W fun e w' => e = .returned (.tuple #[.string ⟨#[67, 72, 70, 32, 49, 50, 46, 48, 53]⟩, .int .i64 0]) ∧ Below W.heap.size W w' := by
  have h := text_ok 1205 0 W (by decide) (by decide) hs
  have e1 : mtc 1205 0 = ⟨#[67, 72, 70, 32, 49, 50, 46, 48, 53]⟩ := by
    refine str_ext ?_
    simp [mtc, nmT, mtx, sgT, itS, Lib.itoa, Lib.decDigits]
  rwa [e1] at h
theorem hd_text2 (W : World) (hs : St W) : Calls Tryz.prog 13 #[.int .i64 (-30), .int .i64 1] W fun e w' => e = .returned (.tuple #[.string ⟨#[69, 85, 82, 32, 45, 48, 46, 51, 48]⟩, .int .i64 0]) ∧ Below W.heap.size W w' := by
  have h := text_ok (-30) 1 W (by decide) (by decide) hs
  have e1 : mtc (-30) 1 = ⟨#[69, 85, 82, 32, 45, 48, 46, 51, 48]⟩ := by
    refine str_ext ?_
    simp [mtc, nmT, mtx, sgT, itS, Lib.itoa, Lib.decDigits]
  rwa [e1] at h
theorem hd_add (w : World) (t : TypeId) : Calls Tryz.prog 6 #[.slice (some ⟨w.heap.size, 0, none⟩) 3 3] (w.alloc (.cells #[.int .i64 1, .int .i64 2, .int .i64 (-5)] t)) fun e w' => e = .returned (.tuple #[.int .i64 (-2), .int .i64 0]) ∧ Below w.heap.size w w' := by
  have h := add_any (some ⟨w.heap.size, 0, none⟩) 3 [1, 2, -5] _ (by simp) (sl3 w 1 2 (-5) t)
  rw [show addN [1, 2, -5] = -2 by decide +kernel, show addE [1, 2, -5] = 0 by decide +kernel] at h
  exact h.mono fun e w' ⟨he, hw⟩ => ⟨he, by subst hw; exact (Below.refl _ _).alloc (Nat.le_refl _) _⟩
theorem hd_same (pb x y z : Nat) (w : World) (t : TypeId) (h : Row w pb 3 (gd [(x : Int), y, z])) : Calls Tryz.prog 12 #[.slice (some ⟨pb, 0, none⟩) 3 3, .slice (some ⟨w.heap.size, 0, none⟩) 3 3] (w.alloc (.cells #[.int .i64 x, .int .i64 y, .int .i64 z] t)) fun e w' => e = .returned (.bool true) ∧ Below w.heap.size w w' := by
  have h1 := same_any (some ⟨pb, 0, none⟩) (some ⟨w.heap.size, 0, none⟩) 3 3 [(x : Int), y, z] [(x : Int), y, z] (w.alloc (.cells #[.int .i64 x, .int .i64 y, .int .i64 z] t)) (by simp) (by simp) ((h.alloc (h.lt (by omega)) _).sl rfl fun _ _ => rfl) (sl3 w x y z t)
  rw [show decide ([(x : Int), (y : Int), (z : Int)] = [(x : Int), (y : Int), (z : Int)]) = true by simp] at h1
  exact h1.mono fun e w' ⟨he, n, hw⟩ => ⟨he, by subst hw; exact below_drewN' ((Below.refl _ _).alloc (Nat.le_refl _) _) n⟩
theorem Row.on {w w' : World} {b n : Nat} {f : Nat → Int} (h : Row w b n f) (hn : 0 < n) (hb : Below w.heap.size w w') : Row w' b n f := h.below hb (h.lt hn)
theorem on_below {w w1 w2 : World} (b : Below w.heap.size w w1) (hb : Below w1.heap.size w1 w2) : Below w.heap.size w w2 := b.trans (hb.mono b.size)

set_option maxRecDepth 100000 in
set_option maxHeartbeats 2000000 in
theorem head_any (w : World) (hs : St w) : Calls Tryz.prog 4 #[] w fun e w' => e = .returned (.bool true) ∧ Below w.heap.size w w' := by
  have HS := Lib.hid hs; clear hs
  go_enter Tryz.func4, Tryz.ntmps4
  go_wp2_with fail
  refine (hd_scale1 _).mono ?_
  rintro e w1 ⟨rfl, hb⟩
  obtain ⟨b1, z1⟩ := on_new (Below.refl w.heap.size w) hb
  have p := Pr.new hb
  have ⟨p0, p1⟩ := p
  have pl := p.lt
  clear hb
  go_wp2_with fail
  clear p p0 p1 pl
  refine (hd_scale2 _).mono ?_
  rintro e w2 ⟨rfl, hb⟩
  have b2 := on_below b1 hb
  clear hb b1 z1
  go_wp2_with fail
  refine (hd_scale3 _).mono ?_
  rintro e w3 ⟨rfl, hb⟩
  have b3 := on_below b2 hb
  clear hb b2
  go_wp2_with fail
  refine (hd_split1 _ _).mono ?_
  rintro e w4 ⟨pb, rfl, r1, hb⟩
  have b4 := on_below b3 hb
  clear hb b3
  go_wp2_with fail
  refine (hd_split2 _ _).mono ?_
  rintro e w5 ⟨qb, rfl, r2, hb⟩
  have b5 := on_below b4 hb
  replace r1 := r1.on (by omega) hb
  clear hb b4
  go_wp2_with fail
  refine (hd_text1 _ (HS.out.below b5 HS.out.sz)).mono ?_
  rintro e w6 ⟨rfl, hb⟩
  have b6 := on_below b5 hb
  replace r1 := r1.on (by omega) hb
  replace r2 := r2.on (by omega) hb
  clear hb b5
  go_wp2_with fail
  refine (hd_text2 _ (HS.out.below b6 HS.out.sz)).mono ?_
  rintro e w7 ⟨rfl, hb⟩
  have b7 := on_below b6 hb
  replace r1 := r1.on (by omega) hb
  replace r2 := r2.on (by omega) hb
  clear hb b6
  go_wp2_with fail
  refine (hd_add _ _).mono ?_
  rintro e w8 ⟨rfl, hb⟩
  have b8 := on_below b7 hb
  replace r1 := r1.on (by omega) hb
  replace r2 := r2.on (by omega) hb
  clear hb b7
  go_wp2_with fail
  refine (hd_exc1 _).mono ?_
  rintro e w9 ⟨rfl, hb⟩
  have b9 := on_below b8 hb
  replace r1 := r1.on (by omega) hb
  replace r2 := r2.on (by omega) hb
  clear hb b8
  go_wp2_with fail
  refine (hd_exc2 _).mono ?_
  rintro e w10 ⟨rfl, hb⟩
  have b10 := on_below b9 hb
  replace r1 := r1.on (by omega) hb
  replace r2 := r2.on (by omega) hb
  clear hb b9
  go_wp2_with fail
  refine (hd_same pb 34 33 33 _ _ r1).mono ?_
  rintro e w11 ⟨rfl, hb⟩
  have b11 := on_below b10 hb
  replace r2 := r2.on (by omega) hb
  clear hb b10 r1
  go_wp2_with fail
  refine (hd_same qb 1 2 2 _ _ r2).mono ?_
  rintro e w12 ⟨rfl, hb⟩
  have b12 := on_below b11 hb
  clear hb b11 r2
  go_wp2_with fail
  go_ret
  exact ⟨rfl, b12⟩
end Go.Proofs.YtanncjkkaeeiaaaGreatDoor
