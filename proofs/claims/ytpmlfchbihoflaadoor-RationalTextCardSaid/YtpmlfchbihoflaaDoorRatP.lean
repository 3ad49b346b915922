/-
  The law's head: the fixed numbers have the known results.
-/
import Derived.Test.YtpmlfchbihoflaaDoorRatO
namespace Go.Proofs.YtpmlfchbihoflaaDoor
open Go.RowKit Go.Sort
open Go.RowKit (Below)

theorem i64_of {x : Int} (h1 : -9223372036854775808 ≤ x) (h2 : x ≤ 9223372036854775807) : I64 x := ⟨h1, h2⟩

theorem head_make (W : World) : Calls Tryd.prog 8 #[.int .i64 6, .int .i64 (-4)] W fun e w' => e = .returned (.tuple #[.agg #[.int .i64 (-3), .int .i64 2], .int .i64 0]) ∧ Below W.heap.size W w' := by
  have h := make_any 6 (-4) W (i64_of (by omega) (by omega)) (i64_of (by omega) (by omega))
  rwa [show mkN 6 (-4) = -3 by decide +kernel, show mkD 6 (-4) = 2 by decide +kernel, show mkE 6 (-4) = 0 by decide +kernel] at h
theorem head_add (W : World) : Calls Tryd.prog 10 #[.agg #[.int .i64 1, .int .i64 2], .agg #[.int .i64 1, .int .i64 3]] W fun e w' => e = .returned (.tuple #[.agg #[.int .i64 5, .int .i64 6], .int .i64 0]) ∧ Below W.heap.size W w' := by
  have h := add_any 1 2 1 3 W (i64_of (by omega) (by omega)) (i64_of (by omega) (by omega)) (i64_of (by omega) (by omega)) (i64_of (by omega) (by omega))
  rwa [show opN (vld 1 2 && vld 1 3) (1 * 3 + 1 * 2) (2 * 3) = 5 by decide +kernel, show opD (vld 1 2 && vld 1 3) (1 * 3 + 1 * 2) (2 * 3) = 6 by decide +kernel, show opE (vld 1 2 && vld 1 3) (1 * 3 + 1 * 2) (2 * 3) = 0 by decide +kernel] at h
theorem head_floor (W : World) : Calls Tryd.prog 20 #[.agg #[.int .i64 (-3), .int .i64 2]] W fun e w' => e = .returned (.tuple #[.int .i64 (-2), .int .i64 0]) ∧ Below W.heap.size W w' := by
  have h := floor_any (-3) 2 W (i64_of (by omega) (by omega)) (i64_of (by omega) (by omega))
  rwa [show floorR (vld (-3) 2) (-3) 2 = -2 by decide +kernel, show cmpE (vld (-3) 2) = 0 by decide +kernel] at h
theorem head_text (W : World) (hs : St W) : Calls Tryd.prog 22 #[.agg #[.int .i64 (-3), .int .i64 4]] W fun e w' => e = .returned (.tuple #[.string ⟨#[45, 51, 47, 52]⟩, .int .i64 0]) ∧ Below W.heap.size W w' := by
  have h := text_any (-3) 4 W (i64_of (by omega) (by omega)) (i64_of (by omega) (by omega)) hs
  have e1 : textR (vld (-3) 4) (-3) 4 = ⟨#[45, 51, 47, 52]⟩ := by
    rw [show vld (-3) 4 = true by decide +kernel]
    refine str_ext ?_
    rw [show textR true (-3) 4 = txt (-3) 4 from rfl, txt_list, if_neg (by omega)]
    simp [Lib.itoa, Lib.decDigits]
  rwa [e1, show cmpE (vld (-3) 4) = 0 by decide +kernel] at h
theorem prs_64 : prs [54, 47, 52] = none := by decide +kernel
theorem head_parse (W : World) (hs : St W) : Calls Tryd.prog 24 #[.string ⟨#[54, 47, 52]⟩] W fun e w' => e = .returned (.tuple #[.agg #[.int .i64 0, .int .i64 0], .int .i64 8]) ∧ Below W.heap.size W w' := by
  have h := parse_any ⟨#[54, 47, 52]⟩ W hs (by show 3 < _; omega)
  rwa [show prsN (⟨#[54, 47, 52]⟩ : ByteArray).data.toList = 0 by show prsN [54, 47, 52] = 0; simp [prsN, prs_64], show prsD (⟨#[54, 47, 52]⟩ : ByteArray).data.toList = 0 by show prsD [54, 47, 52] = 0; simp [prsD, prs_64],
    show prsE (⟨#[54, 47, 52]⟩ : ByteArray).data.toList = 8 by show prsE [54, 47, 52] = 8; simp [prsE, prs_64]] at h
theorem head_mul (W : World) : Calls Tryd.prog 14 #[.agg #[.int .i64 1000000000, .int .i64 1], .agg #[.int .i64 2, .int .i64 1]] W fun e w' => e = .returned (.tuple #[.agg #[.int .i64 0, .int .i64 0], .int .i64 3]) ∧ Below W.heap.size W w' := by
  have h := mul_any 1000000000 1 2 1 W (i64_of (by omega) (by omega)) (i64_of (by omega) (by omega)) (i64_of (by omega) (by omega)) (i64_of (by omega) (by omega))
  rwa [show opN (vld 1000000000 1 && vld 2 1) (1000000000 * 2) (1 * 1) = 0 by decide +kernel, show opD (vld 1000000000 1 && vld 2 1) (1000000000 * 2) (1 * 1) = 0 by decide +kernel, show opE (vld 1000000000 1 && vld 2 1) (1000000000 * 2) (1 * 1) = 3 by decide +kernel] at h
theorem head_div (W : World) : Calls Tryd.prog 16 #[.agg #[.int .i64 1, .int .i64 2], .agg #[.int .i64 0, .int .i64 1]] W fun e w' => e = .returned (.tuple #[.agg #[.int .i64 0, .int .i64 0], .int .i64 7]) ∧ Below W.heap.size W w' := by
  have h := div_any 1 2 0 1 W (i64_of (by omega) (by omega)) (i64_of (by omega) (by omega)) (i64_of (by omega) (by omega)) (i64_of (by omega) (by omega))
  rwa [show opN (vld 1 2 && vld 0 1) (1 * 1) (2 * 0) = 0 by decide +kernel, show opD (vld 1 2 && vld 0 1) (1 * 1) (2 * 0) = 0 by decide +kernel, show opE (vld 1 2 && vld 0 1) (1 * 1) (2 * 0) = 7 by decide +kernel] at h
theorem head_cmp (W : World) : Calls Tryd.prog 18 #[.agg #[.int .i64 (-1), .int .i64 2], .agg #[.int .i64 1, .int .i64 3]] W fun e w' => e = .returned (.tuple #[.int .i64 (-1), .int .i64 0]) ∧ Below W.heap.size W w' := by
  have h := cmp_any (-1) 2 1 3 W (i64_of (by omega) (by omega)) (i64_of (by omega) (by omega)) (i64_of (by omega) (by omega)) (i64_of (by omega) (by omega))
  rwa [show cmpR (vld (-1) 2 && vld 1 3) (-1) 2 1 3 = -1 by decide +kernel, show cmpE (vld (-1) 2 && vld 1 3) = 0 by decide +kernel] at h
theorem head_v1 (W : World) : Calls Tryd.prog 6 #[.agg #[.int .i64 (-3), .int .i64 2]] W fun e w' => e = .returned (.bool true) ∧ Below W.heap.size W w' :=
  valid_b (-3) 2 true (by decide +kernel) W (i64_of (by omega) (by omega)) (i64_of (by omega) (by omega))
theorem head_v2 (W : World) : Calls Tryd.prog 6 #[.agg #[.int .i64 2, .int .i64 4]] W fun e w' => e = .returned (.bool false) ∧ Below W.heap.size W w' :=
  valid_b 2 4 false (by decide +kernel) W (i64_of (by omega) (by omega)) (i64_of (by omega) (by omega))

/-- Behind a call that follows a new block: what the new block and the elder ones hold is held on. -/
theorem on_new {w w1 w2 : World} {o : Obj} (b : Below w.heap.size w w1) (hb : Below (w1.alloc o).heap.size (w1.alloc o) w2) : Below w.heap.size w w2 ∧ w1.heap.size < w2.heap.size :=
  ⟨(b.alloc b.size _).trans (hb.mono (by have := b.size; simp; omega)), by have := hb.size; simp at this; omega⟩
theorem on_same {w w1 w2 : World} (b : Below w.heap.size w w1) (hb : Below w1.heap.size w1 w2) : Below w.heap.size w w2 ∧ w1.heap.size ≤ w2.heap.size :=
  ⟨b.trans (hb.mono b.size), hb.size⟩

set_option maxRecDepth 100000 in
set_option maxHeartbeats 1000000 in
theorem head_any (w : World) (hs : St w) : Calls Tryd.prog 5 #[] w fun e w' => e = .returned (.bool true) ∧ Below w.heap.size w w' := by
  have HS := Lib.hid hs; clear hs
  go_enter Tryd.func5, Tryd.ntmps5
  go_wp2_with fail
  refine (head_make _).mono ?_
  rintro e w1 ⟨rfl, b1⟩
  go_wp2_with fail
  refine (head_add _).mono ?_
  rintro e w2 ⟨rfl, hb2⟩
  obtain ⟨b2, z2⟩ := on_new b1 hb2
  have a0 : w2.cell? ⟨w1.heap.size, 0, none⟩ = some (.int .i64 (-3)) := by rw [hb2.cell (by simp)]; simp [go_sem]
  have a1 : w2.cell? ⟨w1.heap.size, 1, none⟩ = some (.int .i64 2) := by rw [hb2.cell (by simp)]; simp [go_sem]
  clear hb2
  go_wp2_with fail
  refine (head_floor _).mono ?_
  rintro e w3 ⟨rfl, hb3⟩
  obtain ⟨b3, z3⟩ := on_new b2 hb3
  have c0 : w3.cell? ⟨w1.heap.size, 0, none⟩ = some (.int .i64 (-3)) := by rw [hb3.cell (by simp; omega), World.cell?_alloc_past _ _ _ z2]; exact a0
  have c1 : w3.cell? ⟨w1.heap.size, 1, none⟩ = some (.int .i64 2) := by rw [hb3.cell (by simp; omega), World.cell?_alloc_past _ _ _ z2]; exact a1
  have d0 : w3.cell? ⟨w2.heap.size, 0, none⟩ = some (.int .i64 5) := by rw [hb3.cell (by simp)]; simp [go_sem]
  have d1 : w3.cell? ⟨w2.heap.size, 1, none⟩ = some (.int .i64 6) := by rw [hb3.cell (by simp)]; simp [go_sem]
  clear hb3 a0 a1
  go_wp2_with fail
  refine (head_text _ (HS.out.below b3 HS.out.sz)).mono ?_
  rintro e w4 ⟨rfl, hb4⟩
  obtain ⟨b4, z4⟩ := on_same b3 hb4
  go_wp2_with fail
  refine (head_parse _ (HS.out.below b4 HS.out.sz)).mono ?_
  rintro e w5 ⟨rfl, hb5⟩
  obtain ⟨b5, z5⟩ := on_same b4 hb5
  go_wp2_with fail
  refine (head_mul _).mono ?_
  rintro e w6 ⟨rfl, hb6⟩
  obtain ⟨b6, z6⟩ := on_new b5 hb6
  go_wp2_with fail
  refine (head_div _).mono ?_
  rintro e w7 ⟨rfl, hb7⟩
  obtain ⟨b7, z7⟩ := on_new b6 hb7
  go_wp2_with fail
  refine (head_cmp _).mono ?_
  rintro e w8 ⟨rfl, hb8⟩
  obtain ⟨b8, z8⟩ := on_new b7 hb8
  have b38 : Below w3.heap.size w3 w8 := (hb4.trans ((hb5.mono (by omega)).trans (((Below.refl _ _).alloc (by omega) _).trans ((hb6.mono (by simp; omega)).trans (((Below.refl _ _).alloc (by omega) _).trans ((hb7.mono (by simp; omega)).trans (((Below.refl _ _).alloc (by omega) _).trans (hb8.mono (by simp; omega)))))))))
  have x0 : w8.cell? ⟨w1.heap.size, 0, none⟩ = some (.int .i64 (-3)) := by rw [b38.cell (block_lt c0)]; exact c0
  have x1 : w8.cell? ⟨w1.heap.size, 1, none⟩ = some (.int .i64 2) := by rw [b38.cell (block_lt c1)]; exact c1
  have y0 : w8.cell? ⟨w2.heap.size, 0, none⟩ = some (.int .i64 5) := by rw [b38.cell (block_lt d0)]; exact d0
  have y1 : w8.cell? ⟨w2.heap.size, 1, none⟩ = some (.int .i64 6) := by rw [b38.cell (block_lt d1)]; exact d1
  clear b38 hb4 hb5 hb6 hb7 hb8 c0 c1 d0 d1
  go_wp2_with fail
  refine (head_v1 _).mono ?_
  rintro e w9 ⟨rfl, hb9⟩
  obtain ⟨b9, z9⟩ := on_same b8 hb9
  clear x0 x1 y0 y1
  go_wp2_with fail
  refine (head_v2 _).mono ?_
  rintro e w10 ⟨rfl, hb10⟩
  obtain ⟨b10, z10⟩ := on_same b9 hb10
  go_wp2_with fail
  go_ret
  exact ⟨rfl, b10⟩
end Go.Proofs.YtpmlfchbihoflaaDoor
