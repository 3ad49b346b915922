/-
  Contracts with names for results; the laws' head.
-/
import Derived.Test.YtpplpnmammpkpaaDoorDigL
import Derived.Lib.SlBytesConst
namespace Go.Proofs.YtpplpnmammpkpaaDoor
open Go.RowKit Go.Sort
open Go.RowKit (Below)
set_option linter.unusedVariables false
set_option linter.unusedSimpArgs false

theorem below_new (w : World) (o : Obj) : Below w.heap.size w (w.alloc o) := (Below.refl _ _).alloc (Nat.le_refl _) _
theorem sum_is (A : Option Addr) (C : Nat) (xs : List Int) (v : Int) (hv : dig xs = v) (w : World) (hl : xs.length ≤ 9223372036854775807) (hs : Sk .u8 w A xs) :
    Calls Tryd.prog 11 #[.slice A xs.length C] w fun e w' => e = .returned (.int .u64 v) ∧ w = w' := by subst hv; exact sum_any A C xs w hl hs
theorem ints_is (A : Option Addr) (C : Nat) (xs : List Int) (v : Int) (hv : dig (txs xs) = v) (w : World) (hs : St w) (hl : xs.length ≤ 9223372036854775807) (hi : ∀ x ∈ xs, I64 x) (h : Sk .i64 w A xs) :
    Calls Tryd.prog 13 #[.slice A xs.length C] w fun e w' => e = .returned (.int .u64 v) ∧ Below w.heap.size w w' := by subst hv; exact ints_any A C xs w hs hl hi h
theorem root_is (A : Option Addr) (C : Nat) (xs : List Int) (v E : Int) (hv : rtV xs = v) (hE : lvE xs.length = E) (w : World) (hl : xs.length ≤ 9223372036854775807) (hu : ∀ x ∈ xs, U64 x) (h : Sk .u64 w A xs) :
    Calls Tryd.prog 15 #[.slice A xs.length C] w fun e w' => e = .returned (.tuple #[.int .u64 v, .int .i64 E]) ∧ Below w.heap.size w w' := by subst hv hE; exact root_any A C xs w hl hu h
theorem path_is (A : Option Addr) (C : Nat) (xs : List Int) (i : Int) (zs : List Int) (E : Int) (hz : ptV xs i = zs) (hE : ptE xs.length i = E) (w : World) (hl : xs.length ≤ 9223372036854775807) (hu : ∀ x ∈ xs, U64 x) (h : Sk .u64 w A xs) :
    Calls Tryd.prog 17 #[.slice A xs.length C, .int .i64 i] w (Gk .u64 w zs E) := by subst hz hE; exact path_any A C xs i w hl hu h
theorem bytes_is (m : Int) (A : Option Addr) (C : Nat) (xs : List Int) (ys : List Int) (hy : byB m xs = ys) (w : World) (hl : xs.length ≤ 100) (hu : ∀ x ∈ xs, U64 x) (h : Sk .u64 w A xs) :
    Calls Tryd.prog 23 #[.int .u8 m, .slice A xs.length C] w (Mkk .u8 w ys) := by subst hy; exact bytes_any m A C xs w hl hu h

theorem conv_id (W : World) (C : Array Value) (n c : Nat) : (convert 22 22 (.slice (some ⟨W.heap.size, 0, none⟩) n c)).run Tryd.prog (W.alloc (.cells C 5)) = .ok (.slice (some ⟨W.heap.size, 0, none⟩) n c) (W.alloc (.cells C 5 (C.size, C.size + 1))) :=
  Lib.run_convert_bytes_const W _ _ C n c Tryd.underlying22 Tryd.underlying5
theorem sk_rowF {k : IntKind} {w : World} {g : Nat} {t : TypeId} {fr : Nat × Nat} (xs : List Int) (h : w.heap[g]? = some (.cells (xs.map (Value.int k)).toArray t fr)) : Sk k w (some ⟨g, 0, none⟩) xs := by
  intro j hj
  refine ⟨g, 0, rfl, ?_⟩
  rw [Nat.zero_add, cell_of_row _ _ _ _ _ _ h]
  simp [gd_at hj, hj]
theorem u_all {xs : List Int} (h : xs.all (fun x => decide (0 ≤ x) && decide (x ≤ 18446744073709551615)) = true) : ∀ x ∈ xs, U64 x := by
  intro x hx
  have := List.all_eq_true.1 h x hx
  simp at this
  exact this
theorem u_one {x : Int} (h : U64 x) : ∀ y ∈ [x], U64 y := by intro y hy; simp at hy; subst hy; exact h
theorem u_two {x y : Int} (h : U64 x) (h' : U64 y) : ∀ z ∈ [x, y], U64 z := by intro z hz; simp at hz; rcases hz with rfl | rfl <;> assumption
theorem byB_one (m x : Int) : byB m [x] = m :: be8 x := by simp [byB]
theorem byB_two (m x y : Int) : byB m [x, y] = m :: (be8 x ++ be8 y) := by simp [byB]
theorem itoa12 : txs [12, -3] = [49, 50, 32, 45, 51, 32] := by
  decide +kernel
theorem root3 (x y z : Int) : rtV [x, y, z] = pairN (pairN (leafN x) (leafN y)) (leafN z) := by
  unfold rtV
  rw [if_pos (lvE_ok.2 ⟨by simp, by simp⟩), rootL_up (by simp), rootL_up (by simp [up]), rootL_one (by simp [up])]
  simp [up, gd]
theorem path3 (x y z : Int) : ptV [x, y, z] 2 = [pairN (leafN x) (leafN y)] := by
  unfold ptV
  rw [if_pos (ptE_ok.2 ⟨by simp, by simp, by omega, by simp⟩)]
  show pathL [leafN x, leafN y, leafN z] 2 = _
  rw [pathL_up _ (by simp), pathL_up _ (by simp [up]), pathL_one _ (by simp [up])]
  simp [sib, up, gd]
theorem chk3 (x y z : Int) : chkB (pairN (pairN (leafN x) (leafN y)) (leafN z)) z 2 3 [pairN (leafN x) (leafN y)] = true := by
  unfold chkB
  rw [if_pos (by decide)]
  show chkW _ _ 2 3 _ = true
  rw [chkW_up _ _ _ _ _ (by decide) (by decide) (by decide), chkW_odd _ _ _ _ _ _ (by decide) (by decide), chkW_one _ _ _ _ _ (by decide)]
  simp
theorem i64_ex : ∀ x ∈ [(12 : Int), -3], I64 x := by intro x hx; simp at hx; rcases hx with rfl | rfl <;> constructor <;> decide
/-- What the head's examples come to. -/
structure HF (a b c ab r V : Int) : Prop where
  d0 : dig [] = 14695981039346656037
  d1 : dig [97] = 12638187200555641996
  d2 : dig [102, 111, 111, 98, 97, 114] = 9625390261332436968
  d3 : dig (txs [12, -3]) = V
  d4 : dig [49, 50, 32, 45, 51, 32] = V
  r0 : rtV [5, 6, 7] = r
  r1 : rtV [] = 0
  p0 : ptV [5, 6, 7] 2 = [ab]
  p1 : ptV [5, 6, 7] 3 = []
  a0 : dig (byB 0 [5]) = a
  b0 : dig (byB 0 [6]) = b
  c0 : dig (byB 0 [7]) = c
  ab0 : dig (byB 1 [a, b]) = ab
  rr : dig (byB 1 [ab, c]) = r
  ck : chkB r 7 2 3 [ab] = true
  ua : U64 a
  ub : U64 b
  uc : U64 c
  uab : U64 ab
theorem hf : HF (leafN 5) (leafN 6) (leafN 7) (pairN (leafN 5) (leafN 6)) (pairN (pairN (leafN 5) (leafN 6)) (leafN 7)) (dig [49, 50, 32, 45, 51, 32]) where
  d0 := rfl
  d1 := by decide +kernel
  d2 := by decide +kernel
  d3 := by rw [itoa12]
  d4 := rfl
  r0 := root3 5 6 7
  r1 := by unfold rtV; rw [if_neg (by decide)]
  p0 := path3 5 6 7
  p1 := by unfold ptV; rw [if_neg (by decide)]
  a0 := by rw [byB_one]; rfl
  b0 := by rw [byB_one]; rfl
  c0 := by rw [byB_one]; rfl
  ab0 := by rw [byB_two]; rfl
  rr := by rw [byB_two]; rfl
  ck := chk3 5 6 7
  ua := leafN_u _
  ub := leafN_u _
  uc := leafN_u _
  uab := pairN_u _ _

set_option maxRecDepth 100000 in
set_option maxHeartbeats 2000000 in
theorem head_any (w : World) (hs : St w) :
    Calls Tryd.prog 10 #[] w fun e w' => e = .returned (.bool true) ∧ Below w.heap.size w w' := by
  obtain ⟨a, b, c, ab, r, V, hf⟩ : ∃ a b c ab r V, HF a b c ab r V := ⟨_, _, _, _, _, _, hf⟩
  have HF' := Lib.hid hf
  have HS := Lib.hid hs
  clear hf hs
  have hcc := conv_id
  have HB := Lib.hid (Below.refl w.heap.size w)
  go_enter Tryd.func10, Tryd.ntmps10
  go_wp2_with fail
  refine (sum_is none 0 [] _ HF'.out.d0 _ (by decide) (Sk.nil _ _ _)).mono ?_
  rintro e w' ⟨rfl, rfl⟩
  go_wp2_with fail
  generalize hV : World.alloc w (.cells #[.int .u8 97] 5 (1, 2)) = V1 at *
  have Hn1 := Lib.hid (show Sk .u8 V1 (some ⟨(w).heap.size, 0, none⟩) [97] from hV ▸ sk_rowF [97] (heap_alloc_new (w) _))
  have hb : Below (w).heap.size (w) V1 := hV ▸ below_new _ _
  replace HB := Lib.hid (on_below HB.out hb)
  replace HS := Lib.hid (HS.out.on hb)
  clear hb hV
  refine (sum_is _ 1 [97] _ HF'.out.d1 _ (by decide) Hn1.out).mono ?_
  rintro e w' ⟨rfl, rfl⟩
  go_wp2_with fail
  clear Hn1
  generalize hV : World.alloc V1 (.cells #[.int .u8 102, .int .u8 111, .int .u8 111, .int .u8 98, .int .u8 97, .int .u8 114] 5 (6, 7)) = V2 at *
  have Hn2 := Lib.hid (show Sk .u8 V2 (some ⟨(V1).heap.size, 0, none⟩) [102, 111, 111, 98, 97, 114] from hV ▸ sk_rowF [102, 111, 111, 98, 97, 114] (heap_alloc_new (V1) _))
  have hb : Below (V1).heap.size (V1) V2 := hV ▸ below_new _ _
  replace HB := Lib.hid (on_below HB.out hb)
  replace HS := Lib.hid (HS.out.on hb)
  clear hb hV
  refine (sum_is _ 6 [102, 111, 111, 98, 97, 114] _ HF'.out.d2 _ (by decide) Hn2.out).mono ?_
  rintro e w' ⟨rfl, rfl⟩
  go_wp2_with fail
  clear Hn2
  generalize hV : World.alloc V2 (.cells #[.int .i64 12, .int .i64 (-3)] 3) = V3 at *
  have Hn3 := Lib.hid (show Sk .i64 V3 (some ⟨(V2).heap.size, 0, none⟩) [12, -3] from hV ▸ sk_rowF [12, -3] (heap_alloc_new (V2) _))
  have hb : Below (V2).heap.size (V2) V3 := hV ▸ below_new _ _
  replace HB := Lib.hid (on_below HB.out hb)
  replace HS := Lib.hid (HS.out.on hb)
  clear hb hV
  refine (ints_is _ 2 [12, -3] _ HF'.out.d3 _ HS.out (by decide) i64_ex Hn3.out).mono ?_
  rintro e w' ⟨rfl, hb⟩
  replace HB := Lib.hid (on_below HB.out hb)
  replace HS := Lib.hid (HS.out.on hb)
  replace Hn3 := Lib.hid (Hn3.out.below hb)
  clear hb
  go_wp2_with fail
  clear Hn3
  generalize hV : World.alloc w' (.cells #[.int .u8 49, .int .u8 50, .int .u8 32, .int .u8 45, .int .u8 51, .int .u8 32] 5 (6, 7)) = V4 at *
  have Hn4 := Lib.hid (show Sk .u8 V4 (some ⟨(w').heap.size, 0, none⟩) [49, 50, 32, 45, 51, 32] from hV ▸ sk_rowF [49, 50, 32, 45, 51, 32] (heap_alloc_new (w') _))
  have hb : Below (w').heap.size (w') V4 := hV ▸ below_new _ _
  replace HB := Lib.hid (on_below HB.out hb)
  replace HS := Lib.hid (HS.out.on hb)
  clear hb hV
  refine (sum_is _ 6 [49, 50, 32, 45, 51, 32] _ HF'.out.d4 _ (by decide) Hn4.out).mono ?_
  rintro e w' ⟨rfl, rfl⟩
  go_wp2_with fail
  clear Hn4
  generalize hV : World.alloc V4 (.cells #[.int .u64 5, .int .u64 6, .int .u64 7] 25) = V5 at *
  have Hlv := Lib.hid (show Sk .u64 V5 (some ⟨(V4).heap.size, 0, none⟩) [5, 6, 7] from hV ▸ sk_rowF [5, 6, 7] (heap_alloc_new (V4) _))
  have hb : Below (V4).heap.size (V4) V5 := hV ▸ below_new _ _
  replace HB := Lib.hid (on_below HB.out hb)
  replace HS := Lib.hid (HS.out.on hb)
  clear hb hV
  refine (root_is _ 3 [5, 6, 7] _ 0 HF'.out.r0 rfl _ (by decide) (u_all rfl) Hlv.out).mono ?_
  rintro e w' ⟨rfl, hb⟩
  replace HB := Lib.hid (on_below HB.out hb)
  replace HS := Lib.hid (HS.out.on hb)
  replace Hlv := Lib.hid (Hlv.out.below hb)
  clear hb
  go_wp2_with fail
  refine (path_is _ 3 [5, 6, 7] 2 _ 0 HF'.out.p0 rfl _ (by decide) (u_all rfl) Hlv.out).mono ?_
  rintro e w' ⟨Apt, Cpt, rfl, qa, qb, ⟨hl, _⟩, hb⟩
  replace HB := Lib.hid (on_below HB.out hb)
  replace HS := Lib.hid (HS.out.on hb)
  replace Hlv := Lib.hid (Hlv.out.below hb)
  have Hpt := Lib.hid hl
  have Qpt := Lib.hid (And.intro qa qb)
  clear hb hl qa qb
  go_wp2_with fail
  generalize hV : World.alloc w' (.cells #[.int .u64 5] 25) = U5 at *
  have Ho := Lib.hid (show Sk .u64 U5 (some ⟨(w').heap.size, 0, none⟩) [5] from hV ▸ sk_rowF [5] (heap_alloc_new (w') _))
  have hb : Below (w').heap.size (w') U5 := hV ▸ below_new _ _
  replace HB := Lib.hid (on_below HB.out hb)
  replace HS := Lib.hid (HS.out.on hb)
  replace Hlv := Lib.hid (Hlv.out.below hb)
  replace Hpt := Lib.hid (Hpt.out.below hb)
  clear hb hV
  refine (bytes_any 0 _ 1 [5] _ (by decide) (u_all rfl) Ho.out).mono ?_
  rintro e w' ⟨Ay, Cy, rfl, qa, qb, ⟨hl, _⟩, hb⟩
  replace HB := Lib.hid (on_below HB.out hb)
  replace HS := Lib.hid (HS.out.on hb)
  replace Hlv := Lib.hid (Hlv.out.below hb)
  replace Hpt := Lib.hid (Hpt.out.below hb)
  replace Ho := Lib.hid (Ho.out.below hb)
  have Hy := Lib.hid hl
  have Qy := Lib.hid (And.intro qa qb)
  clear hb hl qa qb
  go_wp2_with fail
  refine (sum_is _ _ (byB 0 [5]) _ HF'.out.a0 _ (by rw [byB_len]; decide) Hy.out).mono ?_
  rintro e w' ⟨rfl, rfl⟩
  go_wp2_with fail
  clear Ho Hy
  clear Qy
  generalize hV : World.alloc w' (.cells #[.int .u64 6] 25) = U6 at *
  have Ho := Lib.hid (show Sk .u64 U6 (some ⟨(w').heap.size, 0, none⟩) [6] from hV ▸ sk_rowF [6] (heap_alloc_new (w') _))
  have hb : Below (w').heap.size (w') U6 := hV ▸ below_new _ _
  replace HB := Lib.hid (on_below HB.out hb)
  replace HS := Lib.hid (HS.out.on hb)
  replace Hlv := Lib.hid (Hlv.out.below hb)
  replace Hpt := Lib.hid (Hpt.out.below hb)
  clear hb hV
  refine (bytes_any 0 _ 1 [6] _ (by decide) (u_all rfl) Ho.out).mono ?_
  rintro e w' ⟨Ay, Cy, rfl, qa, qb, ⟨hl, _⟩, hb⟩
  replace HB := Lib.hid (on_below HB.out hb)
  replace HS := Lib.hid (HS.out.on hb)
  replace Hlv := Lib.hid (Hlv.out.below hb)
  replace Hpt := Lib.hid (Hpt.out.below hb)
  replace Ho := Lib.hid (Ho.out.below hb)
  have Hy := Lib.hid hl
  have Qy := Lib.hid (And.intro qa qb)
  clear hb hl qa qb
  go_wp2_with fail
  refine (sum_is _ _ (byB 0 [6]) _ HF'.out.b0 _ (by rw [byB_len]; decide) Hy.out).mono ?_
  rintro e w' ⟨rfl, rfl⟩
  go_wp2_with fail
  clear Ho Hy
  clear Qy
  generalize hV : World.alloc w' (.cells #[.int .u64 7] 25) = U7 at *
  have Ho := Lib.hid (show Sk .u64 U7 (some ⟨(w').heap.size, 0, none⟩) [7] from hV ▸ sk_rowF [7] (heap_alloc_new (w') _))
  have hb : Below (w').heap.size (w') U7 := hV ▸ below_new _ _
  replace HB := Lib.hid (on_below HB.out hb)
  replace HS := Lib.hid (HS.out.on hb)
  replace Hlv := Lib.hid (Hlv.out.below hb)
  replace Hpt := Lib.hid (Hpt.out.below hb)
  clear hb hV
  refine (bytes_any 0 _ 1 [7] _ (by decide) (u_all rfl) Ho.out).mono ?_
  rintro e w' ⟨Ay, Cy, rfl, qa, qb, ⟨hl, _⟩, hb⟩
  replace HB := Lib.hid (on_below HB.out hb)
  replace HS := Lib.hid (HS.out.on hb)
  replace Hlv := Lib.hid (Hlv.out.below hb)
  replace Hpt := Lib.hid (Hpt.out.below hb)
  replace Ho := Lib.hid (Ho.out.below hb)
  have Hy := Lib.hid hl
  have Qy := Lib.hid (And.intro qa qb)
  clear hb hl qa qb
  go_wp2_with fail
  refine (sum_is _ _ (byB 0 [7]) _ HF'.out.c0 _ (by rw [byB_len]; decide) Hy.out).mono ?_
  rintro e w' ⟨rfl, rfl⟩
  go_wp2_with fail
  clear Ho Hy
  clear Qy
  generalize hV : World.alloc w' (.cells #[.int .u64 a, .int .u64 b] 25) = U8 at *
  have Ho := Lib.hid (show Sk .u64 U8 (some ⟨(w').heap.size, 0, none⟩) [a, b] from hV ▸ sk_rowF [a, b] (heap_alloc_new (w') _))
  have hb : Below (w').heap.size (w') U8 := hV ▸ below_new _ _
  replace HB := Lib.hid (on_below HB.out hb)
  replace HS := Lib.hid (HS.out.on hb)
  replace Hlv := Lib.hid (Hlv.out.below hb)
  replace Hpt := Lib.hid (Hpt.out.below hb)
  clear hb hV
  refine (bytes_any 1 _ 2 [a, b] _ (by simp) (u_two HF'.out.ua HF'.out.ub) Ho.out).mono ?_
  rintro e w' ⟨Ay, Cy, rfl, qa, qb, ⟨hl, _⟩, hb⟩
  replace HB := Lib.hid (on_below HB.out hb)
  replace HS := Lib.hid (HS.out.on hb)
  replace Hlv := Lib.hid (Hlv.out.below hb)
  replace Hpt := Lib.hid (Hpt.out.below hb)
  replace Ho := Lib.hid (Ho.out.below hb)
  have Hy := Lib.hid hl
  have Qy := Lib.hid (And.intro qa qb)
  clear hb hl qa qb
  go_wp2_with fail
  refine (sum_is _ _ (byB 1 [a, b]) _ HF'.out.ab0 _ (by rw [byB_len]; simp) Hy.out).mono ?_
  rintro e w' ⟨rfl, rfl⟩
  go_wp2_with fail
  clear Ho Hy
  clear Qy
  refine (root_is none 0 [] _ 1 HF'.out.r1 rfl _ (by decide) (u_all rfl) (Sk.nil _ _ _)).mono ?_
  rintro e w' ⟨rfl, hb⟩
  replace HB := Lib.hid (on_below HB.out hb)
  replace HS := Lib.hid (HS.out.on hb)
  replace Hlv := Lib.hid (Hlv.out.below hb)
  replace Hpt := Lib.hid (Hpt.out.below hb)
  clear hb
  go_wp2_with fail
  refine (path_is _ 3 [5, 6, 7] 3 _ 1 HF'.out.p1 rfl _ (by decide) (u_all rfl) Hlv.out).mono ?_
  rintro e w' ⟨Az, Cz, rfl, qa, qb, ⟨hl, _⟩, hb⟩
  replace HB := Lib.hid (on_below HB.out hb)
  replace HS := Lib.hid (HS.out.on hb)
  replace Hlv := Lib.hid (Hlv.out.below hb)
  replace Hpt := Lib.hid (Hpt.out.below hb)
  have Hz := Lib.hid hl
  have Qz := Lib.hid (And.intro qa qb)
  clear hb hl qa qb
  go_wp2_with fail
  clear Hz
  clear Qz
  generalize hV : World.alloc w' (.cells #[.int .u64 ab, .int .u64 c] 25) = U9 at *
  have Ho := Lib.hid (show Sk .u64 U9 (some ⟨(w').heap.size, 0, none⟩) [ab, c] from hV ▸ sk_rowF [ab, c] (heap_alloc_new (w') _))
  have hb : Below (w').heap.size (w') U9 := hV ▸ below_new _ _
  replace HB := Lib.hid (on_below HB.out hb)
  replace HS := Lib.hid (HS.out.on hb)
  replace Hlv := Lib.hid (Hlv.out.below hb)
  replace Hpt := Lib.hid (Hpt.out.below hb)
  clear hb hV
  refine (bytes_any 1 _ 2 [ab, c] _ (by simp) (u_two HF'.out.uab HF'.out.uc) Ho.out).mono ?_
  rintro e w' ⟨Ay, Cy, rfl, qa, qb, ⟨hl, _⟩, hb⟩
  replace HB := Lib.hid (on_below HB.out hb)
  replace HS := Lib.hid (HS.out.on hb)
  replace Hlv := Lib.hid (Hlv.out.below hb)
  replace Hpt := Lib.hid (Hpt.out.below hb)
  replace Ho := Lib.hid (Ho.out.below hb)
  have Hy := Lib.hid hl
  have Qy := Lib.hid (And.intro qa qb)
  clear hb hl qa qb
  go_wp2_with fail
  refine (sum_is _ _ (byB 1 [ab, c]) _ HF'.out.rr _ (by rw [byB_len]; simp) Hy.out).mono ?_
  rintro e w' ⟨rfl, rfl⟩
  go_wp2_with fail
  clear Ho Hy
  clear Qy
  generalize hV : World.alloc w' (.cells #[.int .u64 ab] 25) = U10 at *
  have Ho := Lib.hid (show Sk .u64 U10 (some ⟨(w').heap.size, 0, none⟩) [ab] from hV ▸ sk_rowF [ab] (heap_alloc_new (w') _))
  have hb : Below (w').heap.size (w') U10 := hV ▸ below_new _ _
  replace HB := Lib.hid (on_below HB.out hb)
  replace HS := Lib.hid (HS.out.on hb)
  replace Hlv := Lib.hid (Hlv.out.below hb)
  replace Hpt := Lib.hid (Hpt.out.below hb)
  clear hb hV
  refine (same_any _ _ _ 1 [ab] [ab] _ true (by simp) (by simp) (by simp) Hpt.out Ho.out).mono ?_
  rintro e w' ⟨rfl, hb⟩
  replace HB := Lib.hid (on_below HB.out hb)
  replace HS := Lib.hid (HS.out.on hb)
  replace Hlv := Lib.hid (Hlv.out.below hb)
  replace Hpt := Lib.hid (Hpt.out.below hb)
  replace Ho := Lib.hid (Ho.out.below hb)
  clear hb
  go_wp2_with fail
  refine (check_any r 7 2 3 _ _ [ab] _ true HF'.out.ck (by constructor <;> decide) (by simp) Qpt.out.1 (u_one HF'.out.uab) Hpt.out).mono ?_
  rintro e w' ⟨rfl, hb⟩
  replace HB := Lib.hid (on_below HB.out hb)
  replace HS := Lib.hid (HS.out.on hb)
  replace Hlv := Lib.hid (Hlv.out.below hb)
  replace Hpt := Lib.hid (Hpt.out.below hb)
  replace Ho := Lib.hid (Ho.out.below hb)
  clear hb
  go_wp2_with fail
  go_ret
  exact ⟨rfl, HB.out⟩
end Go.Proofs.YtpplpnmammpkpaaDoor
