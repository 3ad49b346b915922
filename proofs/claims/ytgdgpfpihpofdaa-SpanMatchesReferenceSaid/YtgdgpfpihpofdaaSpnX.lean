/-
  The laws' head: the examples of the chapter.
-/
import Derived.Test.YtgdgpfpihpofdaaSpnU
namespace Go.Proofs.Ytgdgpfpihpofdaa
open Go.RowKit Go.Sort
open Go.RowKit (Below)
set_option linter.unusedVariables false
set_option linter.unusedSimpArgs false

theorem ls_one (w : World) (x y : Int) (t : TypeId) : Ls (w.alloc (.cells #[.int .i64 x, .int .i64 y] t)) (some ⟨w.heap.size, 0, none⟩) 1 [(x, y)] := by
  refine ⟨fun k hk => ?_, by simp, fun h => by cases h⟩
  have hk' : k = 0 := by simp at hk; omega
  subst hk'
  exact ⟨_, _, rfl, by simp [go_sem, gdS], by simp [go_sem, gdS]⟩
theorem ls_two (w : World) (x y z u : Int) (t : TypeId) : Ls (w.alloc (.cells #[.int .i64 x, .int .i64 y, .int .i64 z, .int .i64 u] t)) (some ⟨w.heap.size, 0, none⟩) 2 [(x, y), (z, u)] := by
  refine ⟨fun k hk => ?_, by simp, fun h => by cases h⟩
  have hk' : k = 0 ∨ k = 1 := by simp at hk; omega
  rcases hk' with rfl | rfl <;> exact ⟨_, _, rfl, by simp [go_sem, gdS], by simp [go_sem, gdS]⟩
theorem cmb_lit {op : Bool → Bool → Bool} (h0 : op false false = false) {a b z : List Spn} (ha : chk (-1) a = true) (hb : chk (-1) b = true) (hz : chk (-1) z = true) (h : ∀ m, hasS z m = op (hasS a m) (hasS b m)) : cmb op a b = z := (cmb_is h0 ha hb hz h).symm
theorem ex_or : cmb opO [(0, 10), (20, 30)] [(5, 20), (25, 40)] = [(0, 40)] := by
  refine cmb_lit rfl (by decide) (by decide) (by decide) fun m => ?_
  rw [Bool.eq_iff_iff]
  simp only [opO, hasS, List.any_cons, List.any_nil, Bool.or_false, Bool.or_eq_true, Bool.and_eq_true, Bool.not_eq_true', Bool.or_eq_false_iff, Bool.and_eq_false_iff, decide_eq_true_eq, decide_eq_false_iff_not]
  omega
theorem ex_and : cmb opA [(0, 10), (20, 30)] [(5, 20), (25, 40)] = [(5, 10), (25, 30)] := by
  refine cmb_lit rfl (by decide) (by decide) (by decide) fun m => ?_
  rw [Bool.eq_iff_iff]
  simp only [opA, hasS, List.any_cons, List.any_nil, Bool.or_false, Bool.or_eq_true, Bool.and_eq_true, Bool.not_eq_true', Bool.or_eq_false_iff, Bool.and_eq_false_iff, decide_eq_true_eq, decide_eq_false_iff_not]
  omega
theorem ex_minus : cmb opD [(0, 10), (20, 30)] [(5, 20), (25, 40)] = [(0, 5), (20, 25)] := by
  refine cmb_lit rfl (by decide) (by decide) (by decide) fun m => ?_
  rw [Bool.eq_iff_iff]
  simp only [opD, hasS, List.any_cons, List.any_nil, Bool.or_false, Bool.or_eq_true, Bool.and_eq_true, Bool.not_eq_true', Bool.or_eq_false_iff, Bool.and_eq_false_iff, decide_eq_true_eq, decide_eq_false_iff_not]
  omega

/-- What stays through the head. -/
structure Hd (w0 : World) (gA gB : Nat) (w : World) : Prop where
  a : Ls w (some ⟨gA, 0, none⟩) 2 [(0, 10), (20, 30)]
  b : Ls w (some ⟨gB, 0, none⟩) 2 [(5, 20), (25, 40)]
  bl : Below w0.heap.size w0 w
theorem Hd.on {w0 w w' : World} {gA gB : Nat} (h : Hd w0 gA gB w) (hb : Below w.heap.size w w') : Hd w0 gA gB w' := ⟨h.a.below hb, h.b.below hb, on_below h.bl hb⟩
theorem below_new (w : World) (o : Obj) : Below w.heap.size w (w.alloc o) := (Below.refl _ _).alloc (Nat.le_refl _) _
theorem size_new {w : World} {o : Obj} {V : World} (h : w.alloc o = V) : V.heap.size = w.heap.size + 1 := by subst h; simp
set_option maxRecDepth 100000 in
set_option maxHeartbeats 4000000 in
theorem head_any (w : World) : Calls Try.prog 10 #[] w fun e w' => e = .returned (.bool true) ∧ Below w.heap.size w w' := by
  go_enter Try.func10, Try.ntmps10
  go_wp2_with fail
  have HD := Lib.hid (show Hd w w.heap.size (w.heap.size + 1) ((w.alloc (.cells #[.int .i64 0, .int .i64 10, .int .i64 20, .int .i64 30] 39)).alloc (.cells #[.int .i64 5, .int .i64 20, .int .i64 25, .int .i64 40] 39)) from
    ⟨(ls_two w 0 10 20 30 _).below (below_new _ _), by have := ls_two (w.alloc (.cells #[.int .i64 0, .int .i64 10, .int .i64 20, .int .i64 30] 39)) 5 20 25 40 39; rwa [World.size_alloc] at this, on_below (below_new _ _) (below_new _ _)⟩)
  generalize (w.alloc (.cells #[.int .i64 0, .int .i64 10, .int .i64 20, .int .i64 30] 39)).alloc (.cells #[.int .i64 5, .int .i64 20, .int .i64 25, .int .i64 40] 39) = w1 at *
  refine (union_got _ _ _ _ _ _ _ _ ex_or rfl rfl (by decide) HD.out.a HD.out.b).mono ?_
  rintro e w' ⟨AU, CU, rfl, hl, hb⟩
  replace HD := Lib.hid (HD.out.on hb)
  have HU := Lib.hid hl
  clear hl
  clear hb
  go_wp2_with fail
  refine (common_got _ _ _ _ _ _ _ _ ex_and rfl rfl (by decide) HD.out.a HD.out.b).mono ?_
  rintro e w' ⟨AC, CC, rfl, hl, hb⟩
  replace HD := Lib.hid (HD.out.on hb)
  replace HU := Lib.hid (HU.out.below hb)
  have HC := Lib.hid hl
  clear hl
  clear hb
  go_wp2_with fail
  refine (minus_got _ _ _ _ _ _ _ _ ex_minus rfl rfl (by decide) HD.out.a HD.out.b).mono ?_
  rintro e w' ⟨AM, CM, rfl, hl, hb⟩
  replace HD := Lib.hid (HD.out.on hb)
  replace HU := Lib.hid (HU.out.below hb)
  replace HC := Lib.hid (HC.out.below hb)
  have HM := Lib.hid hl
  clear hl
  clear hb
  go_wp2_with fail
  refine (length_got _ _ _ _ 20 (by decide) rfl HD.out.a).mono ?_
  rintro e w' ⟨rfl, hb⟩
  replace HD := Lib.hid (HD.out.on hb)
  replace HU := Lib.hid (HU.out.below hb)
  replace HC := Lib.hid (HC.out.below hb)
  replace HM := Lib.hid (HM.out.below hb)
  clear hb
  go_wp2_with fail
  refine (has_got _ _ _ _ 9 true (by decide) rfl rfl HD.out.a).mono ?_
  rintro e w' ⟨rfl, hb⟩
  replace HD := Lib.hid (HD.out.on hb)
  replace HU := Lib.hid (HU.out.below hb)
  replace HC := Lib.hid (HC.out.below hb)
  replace HM := Lib.hid (HM.out.below hb)
  clear hb
  go_wp2_with fail
  refine (has_got _ _ _ _ 10 false (by decide) rfl rfl HD.out.a).mono ?_
  rintro e w' ⟨rfl, hb⟩
  replace HD := Lib.hid (HD.out.on hb)
  replace HU := Lib.hid (HU.out.below hb)
  replace HC := Lib.hid (HC.out.below hb)
  replace HM := Lib.hid (HM.out.below hb)
  clear hb
  go_wp2_with fail
  refine (shift_got _ _ _ _ 5 [(5, 15), (25, 35)] rfl (by decide) (by decide) HD.out.a).mono ?_
  rintro e w' ⟨AS, CS, rfl, hl, hb⟩
  replace HD := Lib.hid (HD.out.on hb)
  replace HU := Lib.hid (HU.out.below hb)
  replace HC := Lib.hid (HC.out.below hb)
  replace HM := Lib.hid (HM.out.below hb)
  have HS := Lib.hid hl
  clear hl
  clear hb
  go_wp2_with fail
  refine (shift_out _ _ _ _ (-1) (by decide) (by decide) HD.out.a).mono ?_
  rintro e w' ⟨rfl, hb⟩
  replace HD := Lib.hid (HD.out.on hb)
  replace HU := Lib.hid (HU.out.below hb)
  replace HC := Lib.hid (HC.out.below hb)
  replace HM := Lib.hid (HM.out.below hb)
  replace HS := Lib.hid (HS.out.below hb)
  clear hb
  go_wp2_with fail
  generalize hV : World.alloc w' (.cells #[.int .i64 3, .int .i64 3] 39) = V at *
  have HN := Lib.hid (show Ls V (some ⟨w'.heap.size, 0, none⟩) 1 [(3, 3)] from hV ▸ ls_one w' 3 3 _)
  have hb : Below w'.heap.size w' V := hV ▸ below_new _ _
  replace HD := Lib.hid (HD.out.on hb)
  replace HU := Lib.hid (HU.out.below hb)
  replace HC := Lib.hid (HC.out.below hb)
  replace HM := Lib.hid (HM.out.below hb)
  replace HS := Lib.hid (HS.out.below hb)
  clear hb hV
  refine ((show Calls Try.prog 23 #[.slice (some ⟨_, 0, none⟩) 1 1] _ (fun e w' => e = .returned (.tuple #[.int .i64 0, .int .i64 1]) ∧ Below _ _ w') from length_any _ 1 [(3, 3)] _ (by simp) HN.out.sl)).mono ?_
  rintro e w' ⟨rfl, hb⟩
  replace HD := Lib.hid (HD.out.on hb)
  replace HU := Lib.hid (HU.out.below hb)
  replace HC := Lib.hid (HC.out.below hb)
  replace HM := Lib.hid (HM.out.below hb)
  replace HS := Lib.hid (HS.out.below hb)
  clear hb
  go_wp2_with fail
  clear HN
  generalize hV : World.alloc w' (.cells #[.int .i64 0, .int .i64 40] 39) = V at *
  have HN := Lib.hid (show Ls V (some ⟨w'.heap.size, 0, none⟩) 1 [(0, 40)] from hV ▸ ls_one w' 0 40 _)
  have hb : Below w'.heap.size w' V := hV ▸ below_new _ _
  replace HD := Lib.hid (HD.out.on hb)
  replace HU := Lib.hid (HU.out.below hb)
  replace HC := Lib.hid (HC.out.below hb)
  replace HM := Lib.hid (HM.out.below hb)
  replace HS := Lib.hid (HS.out.below hb)
  clear hb hV
  refine (same_got _ _ _ _ _ _ _ true (by decide) (by decide) (by decide) HU.out HN.out).mono ?_
  rintro e w' ⟨rfl, hb⟩
  replace HD := Lib.hid (HD.out.on hb)
  replace HU := Lib.hid (HU.out.below hb)
  replace HC := Lib.hid (HC.out.below hb)
  replace HM := Lib.hid (HM.out.below hb)
  replace HS := Lib.hid (HS.out.below hb)
  clear hb
  go_wp2_with fail
  clear HN
  generalize hV : World.alloc w' (.cells #[.int .i64 5, .int .i64 10, .int .i64 25, .int .i64 30] 39) = V at *
  have HN := Lib.hid (show Ls V (some ⟨w'.heap.size, 0, none⟩) 2 [(5, 10), (25, 30)] from hV ▸ ls_two w' 5 10 25 30 _)
  have hb : Below w'.heap.size w' V := hV ▸ below_new _ _
  replace HD := Lib.hid (HD.out.on hb)
  replace HC := Lib.hid (HC.out.below hb)
  replace HM := Lib.hid (HM.out.below hb)
  replace HS := Lib.hid (HS.out.below hb)
  clear hb hV
  refine (same_got _ _ _ _ _ _ _ true (by decide) (by decide) (by decide) HC.out HN.out).mono ?_
  rintro e w' ⟨rfl, hb⟩
  replace HD := Lib.hid (HD.out.on hb)
  replace HC := Lib.hid (HC.out.below hb)
  replace HM := Lib.hid (HM.out.below hb)
  replace HS := Lib.hid (HS.out.below hb)
  clear hb
  go_wp2_with fail
  clear HN
  generalize hV : World.alloc w' (.cells #[.int .i64 0, .int .i64 5, .int .i64 20, .int .i64 25] 39) = V at *
  have HN := Lib.hid (show Ls V (some ⟨w'.heap.size, 0, none⟩) 2 [(0, 5), (20, 25)] from hV ▸ ls_two w' 0 5 20 25 _)
  have hb : Below w'.heap.size w' V := hV ▸ below_new _ _
  replace HD := Lib.hid (HD.out.on hb)
  replace HM := Lib.hid (HM.out.below hb)
  replace HS := Lib.hid (HS.out.below hb)
  clear hb hV
  refine (same_got _ _ _ _ _ _ _ true (by decide) (by decide) (by decide) HM.out HN.out).mono ?_
  rintro e w' ⟨rfl, hb⟩
  replace HD := Lib.hid (HD.out.on hb)
  replace HM := Lib.hid (HM.out.below hb)
  replace HS := Lib.hid (HS.out.below hb)
  clear hb
  go_wp2_with fail
  clear HN
  generalize hV : World.alloc w' (.cells #[.int .i64 5, .int .i64 15, .int .i64 25, .int .i64 35] 39) = V at *
  have HN := Lib.hid (show Ls V (some ⟨w'.heap.size, 0, none⟩) 2 [(5, 15), (25, 35)] from hV ▸ ls_two w' 5 15 25 35 _)
  have hb : Below w'.heap.size w' V := hV ▸ below_new _ _
  replace HD := Lib.hid (HD.out.on hb)
  replace HS := Lib.hid (HS.out.below hb)
  clear hb hV
  refine (same_got _ _ _ _ _ _ _ true (by decide) (by decide) (by decide) HS.out HN.out).mono ?_
  rintro e w' ⟨rfl, hb⟩
  replace HD := Lib.hid (HD.out.on hb)
  replace HS := Lib.hid (HS.out.below hb)
  clear hb
  go_wp2_with fail
  clear HN
  clear HU HC HM HS
  refine (valid_b _ 2 [(0, 10), (20, 30)] true (by decide) _ (by decide) HD.out.a.sl).mono ?_
  rintro e w' ⟨rfl, hb⟩
  replace HD := Lib.hid (HD.out.on hb)
  clear hb
  go_wp2_with fail
  generalize hV : World.alloc w' (.cells #[.int .i64 0, .int .i64 5, .int .i64 5, .int .i64 9] 39) = V at *
  have HN := Lib.hid (show Ls V (some ⟨w'.heap.size, 0, none⟩) 2 [(0, 5), (5, 9)] from hV ▸ ls_two w' 0 5 5 9 _)
  have hb : Below w'.heap.size w' V := hV ▸ below_new _ _
  replace HD := Lib.hid (HD.out.on hb)
  clear hb hV
  refine (valid_b _ 2 [(0, 5), (5, 9)] false (by decide) _ (by decide) HN.out.sl).mono ?_
  rintro e w' ⟨rfl, hb⟩
  replace HD := Lib.hid (HD.out.on hb)
  clear hb
  go_wp2_with fail
  go_ret
  exact ⟨rfl, HD.out.bl⟩
end Go.Proofs.Ytgdgpfpihpofdaa
