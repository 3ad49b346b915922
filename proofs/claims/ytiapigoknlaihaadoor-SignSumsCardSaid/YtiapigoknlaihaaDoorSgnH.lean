/-
  Contracts with names for results; the laws' head.
-/
import Derived.Test.YtiapigoknlaihaaDoorSgnG
import Derived.Deep.OwnRows
namespace Go.Proofs.YtiapigoknlaihaaDoor
open Go.RowKit Go.Sort
open Go.RowKit (Below)
set_option linter.unusedVariables false
set_option linter.unusedSimpArgs false

theorem below_new (w : World) (o : Obj) : Below w.heap.size w (w.alloc o) := (Below.refl _ _).alloc (Nat.le_refl _) _
theorem sk_rowF {k : IntKind} {w : World} {g : Nat} {t : TypeId} {fr : Nat × Nat} (xs : List Int) (h : w.heap[g]? = some (.cells (xs.map (Value.int k)).toArray t fr)) : Sk k w (some ⟨g, 0, none⟩) xs := by
  intro j hj
  refine ⟨g, 0, rfl, ?_⟩
  rw [Nat.zero_add, cell_of_row _ _ _ _ _ _ h]
  simp [gd_at hj, hj]
/-- Zeros. -/
def zrs (n : Nat) : List Int := List.replicate n 0
def zer (n : Nat) : Array Value := ((zrs n).map (Value.int .i64)).toArray
theorem zrs_len (n : Nat) : (zrs n).length = n := by simp [zrs]
theorem zrs_i (n : Nat) : ∀ x ∈ zrs n, I64 x := by
  intro x hx
  rw [List.eq_of_mem_replicate hx]
  constructor <;> decide
theorem pwr_g (b x : Nat) (h : x < 2 ^ 30) : pwr b x = gpow pp 30 1 b x := by rw [gpow_eq pp 30 1 b x h, Nat.one_mul]; rfl
theorem sign_n (x o : Int) (A : Option Addr) (C n : Nat) (msg : List Int) (hn : msg.length = n) (E Sx e : Int) (he : sgnE x o msg = e) (hE : sgnC x o msg = E) (hS : sgnS x o msg = Sx) (w : World) (hs : St w) (hl : n ≤ 9223372036854775807) (hi : ∀ x ∈ msg, I64 x) (h : Sk .i64 w A msg) :
    Calls Tryd.prog 13 #[.int .i64 x, .int .i64 o, .slice A n C] w fun e' w' => e' = .returned (.tuple #[.agg #[.int .i64 E, .int .i64 Sx], .int .i64 e]) ∧ Below w.heap.size w w' := by subst hn; exact sign_is x o A C msg E Sx e he hE hS w hs hl hi h
theorem verify_n (p E Sx : Int) (A : Option Addr) (C n : Nat) (msg : List Int) (hn : msg.length = n) (r : Bool) (e : Int) (he : vfE p E Sx msg = e) (hr : vfB p E Sx msg = r) (w : World) (hs : St w) (hl : n ≤ 9223372036854775807) (hi : ∀ x ∈ msg, I64 x) (h : Sk .i64 w A msg) :
    Calls Tryd.prog 15 #[.int .i64 p, .agg #[.int .i64 E, .int .i64 Sx], .slice A n C] w fun e' w' => e' = .returned (.tuple #[.bool r, .int .i64 e]) ∧ Below w.heap.size w w' := by subst hn; exact verify_is p E Sx A C msg r e he hr w hs hl hi h
theorem mkz (n : Nat) (hn : n ≤ 1000) (W : World) : (Instr.makeSlice 24 (.int .i64 n) (.int .i64 n)).run Tryd.prog W = .ok (.slice (some ⟨W.heap.size, 0, none⟩) n n) (W.alloc (.cells (zer n) 3)) := by
  have h := run_make_row' 24 3 (.int .i64 0) 8 Tryd.underlying24 i64_info rfl .i64 .i64 n (by omega) (by omega) W
  rw [show madeCells #[Value.int .i64 0] n = zer n from Array.toList_inj.1 (by rw [toList_madeCells_one]; simp [zer, zrs])] at h
  exact h
theorem el_two : eltB 2 = false := by
  have h : eltB ((2 : Nat) : Int) = false := by
    cases hc : eltB ((2 : Nat) : Int) with
    | false => rfl
    | true =>
      have e := (eltB_in (n := 2) (by decide) (by decide)).2 hc
      have h2 := (pwr_g 2 qq (by decide)).symm
      generalize pwr 2 qq = v at *
      have hv : v = 1 := by omega
      subst hv
      exact absurd h2 (by decide +kernel)
  exact h
theorem i_two : ∀ x ∈ [(1 : Int), 2], I64 x := by intro x hx; simp at hx; rcases hx with rfl | rfl <;> constructor <;> decide
/-- What the head's examples come to. -/
structure HF (E Sx E2 S2 : Int) : Prop where
  v1 : pubV 1 = 4
  e1 : pubE 1 = 0
  v5 : pubV 5 = 1024
  e5 : pubE 5 = 0
  v0 : pubV 0 = 0
  e0 : pubE 0 = 1
  er : sgnE 5 7 [1, 2] = 0
  c : sgnC 5 7 [1, 2] = E
  sg : sgnS 5 7 [1, 2] = Sx
  ve : vfE 1024 E Sx [1, 2] = 0
  vb : vfB 1024 E Sx [1, 2] = true
  we : vfE 2 E Sx [1, 2] = 1
  wb : vfB 2 E Sx [1, 2] = false
  xe : sgnE 5 7 (zrs 33) = 2
  xc : sgnC 5 7 (zrs 33) = 0
  xs : sgnS 5 7 (zrs 33) = 0
  ye : sgnE 5 7 (zrs 32) = 0
  yc : sgnC 5 7 (zrs 32) = E2
  ys : sgnS 5 7 (zrs 32) = S2
theorem hf : ∃ E Sx E2 S2, HF E Sx E2 S2 := by
  obtain ⟨p, e, s, h⟩ := sf (x := 5) (o := 7) (msg := [1, 2]) (by decide) (by decide) (by decide) (by decide) (by decide)
  have hp : p = 1024 := by rw [← h.pw]; decide
  subst hp
  have sb : ∀ k : Nat, 1 ≤ k → k < 1073741789 → secB (k : Int) = true := fun k h1 h2 => sec_ok h1 h2
  have s5 := sb 5 (by decide) (by decide)
  have s7 := sb 7 (by decide) (by decide)
  have s1 := sb 1 (by decide) (by decide)
  have w2 : vfE 2 e s [1, 2] = 1 := by unfold vfE; rw [if_neg (fun hh => by rw [el_two] at hh; cases hh.1)]
  have x2 : sgnE 5 7 (zrs 33) = 2 := by unfold sgnE; rw [if_pos ⟨s5, s7⟩, if_neg (by rw [zrs_len]; decide)]
  have y2 : sgnE 5 7 (zrs 32) = 0 := by unfold sgnE; rw [if_pos ⟨s5, s7⟩, if_pos (by rw [zrs_len]; decide)]
  refine ⟨e, s, _, _, ⟨?_, ?_, h.fV, h.fE, by decide, by decide, h.err, h.fC, h.fS, vf_ok h.el h.le h.ls (by decide), h.right (by decide), w2, ?_, x2, ?_, ?_, y2, rfl, rfl⟩⟩
  · unfold pubV; rw [if_pos (show secB 1 = true from s1)]; decide
  · unfold pubE; rw [if_pos (show secB 1 = true from s1)]
  · unfold vfB; rw [w2, if_neg (by decide)]
  · unfold sgnC; rw [x2, if_neg (by decide)]
  · unfold sgnS; rw [x2, if_neg (by decide)]

set_option maxRecDepth 100000 in
set_option maxHeartbeats 2000000 in
theorem head_any (w : World) (hs : St w) :
    Calls Tryd.prog 10 #[] w fun e w' => e = .returned (.bool true) ∧ Below w.heap.size w w' := by
  obtain ⟨E, Sx, E2, S2, hf⟩ := hf
  have HF' := Lib.hid hf
  have HS := Lib.hid hs
  have mk33 : ∀ W : World, (Instr.makeSlice 24 (.int .i64 33) (.int .i64 33)).run Tryd.prog W = .ok (.slice (some ⟨W.heap.size, 0, none⟩) 33 33) (W.alloc (.cells (zer 33) 3)) := fun W => mkz 33 (by decide) W
  have mk32 : ∀ W : World, (Instr.makeSlice 24 (.int .i64 32) (.int .i64 32)).run Tryd.prog W = .ok (.slice (some ⟨W.heap.size, 0, none⟩) 32 32) (W.alloc (.cells (zer 32) 3)) := fun W => mkz 32 (by decide) W
  clear hf hs
  have HB := Lib.hid (Below.refl w.heap.size w)
  go_enter Tryd.func10, Tryd.ntmps10
  go_wp2_with fail
  refine (public_is 1 _ _ HF'.out.v1 HF'.out.e1 _).mono ?_
  rintro e_ w1 ⟨rfl, hb⟩
  replace HB := Lib.hid (on_below HB.out hb)
  replace HS := Lib.hid (HS.out.on hb)
  clear hb
  go_wp2_with fail
  refine (public_is 5 _ _ HF'.out.v5 HF'.out.e5 _).mono ?_
  rintro e_ w2 ⟨rfl, hb⟩
  replace HB := Lib.hid (on_below HB.out hb)
  replace HS := Lib.hid (HS.out.on hb)
  clear hb
  go_wp2_with fail
  refine (public_is 0 _ _ HF'.out.v0 HF'.out.e0 _).mono ?_
  rintro e_ w3 ⟨rfl, hb⟩
  replace HB := Lib.hid (on_below HB.out hb)
  replace HS := Lib.hid (HS.out.on hb)
  clear hb
  go_wp2_with fail
  generalize hV : w3.alloc (.cells #[.int .i64 1, .int .i64 2] 3) = w4 at *
  have Hm1 := Lib.hid (show Sk .i64 w4 (some ⟨w3.heap.size, 0, none⟩) [1, 2] from (hV ▸ sk_rowF [1, 2] (heap_alloc_new w3 _)))
  have hb : Below w3.heap.size w3 w4 := hV ▸ below_new _ _
  replace HB := Lib.hid (on_below HB.out hb)
  replace HS := Lib.hid (HS.out.on hb)
  clear hb
  clear hV
  generalize w3.heap.size = bm1 at *
  refine (sign_n 5 7 _ 2 2 [1, 2] rfl _ _ _ HF'.out.er HF'.out.c HF'.out.sg _ HS.out (by decide) i_two Hm1.out).mono ?_
  rintro e_ w5 ⟨rfl, hb⟩
  replace HB := Lib.hid (on_below HB.out hb)
  replace HS := Lib.hid (HS.out.on hb)
  replace Hm1 := Lib.hid (Hm1.out.below hb)
  clear hb
  clear Hm1
  go_wp2_with fail
  have p0 : World.cell? (w5.alloc (.cells #[.int .i64 E, .int .i64 Sx] 23)) ⟨w5.heap.size, 0, none⟩ = some (.int .i64 E) := by simp [go_sem]
  have p1 : World.cell? (w5.alloc (.cells #[.int .i64 E, .int .i64 Sx] 23)) ⟨w5.heap.size, 1, none⟩ = some (.int .i64 Sx) := by simp [go_sem]
  have lp : w5.heap.size < (w5.alloc (.cells #[.int .i64 E, .int .i64 Sx] 23)).heap.size := by simp
  have hb : Below w5.heap.size w5 (w5.alloc (.cells #[.int .i64 E, .int .i64 Sx] 23)) := below_new _ _
  have zp : (w5.alloc (.cells #[.int .i64 E, .int .i64 Sx] 23)).heap.size = w5.heap.size + 1 := by simp
  generalize w5.alloc (.cells #[.int .i64 E, .int .i64 Sx] 23) = w6 at *
  replace HB := Lib.hid (on_below HB.out hb)
  replace HS := Lib.hid (HS.out.on hb)
  clear hb
  generalize w5.heap.size = gp at *
  generalize hV : w6.alloc (.cells #[.int .i64 1, .int .i64 2] 3) = w7 at *
  have Hm2 := Lib.hid (show Sk .i64 w7 (some ⟨gp + 1, 0, none⟩) [1, 2] from (by rw [← zp]; exact (hV ▸ sk_rowF [1, 2] (heap_alloc_new w6 _))))
  have hb : Below w6.heap.size w6 w7 := hV ▸ below_new _ _
  replace HB := Lib.hid (on_below HB.out hb)
  replace HS := Lib.hid (HS.out.on hb)
  replace p0 := keepc hb p0
  replace p1 := keepc hb p1
  replace lp := Nat.lt_of_lt_of_le lp hb.size
  clear hb
  clear hV zp
  have nm2 : gp < gp + 1 := Nat.lt_succ_self _
  generalize gp + 1 = bm2 at *
  refine (verify_n 1024 E Sx _ 2 2 [1, 2] rfl _ _ HF'.out.ve HF'.out.vb _ HS.out (by decide) i_two Hm2.out).mono ?_
  rintro e_ w8 ⟨rfl, hb⟩
  replace HB := Lib.hid (on_below HB.out hb)
  replace HS := Lib.hid (HS.out.on hb)
  replace Hm2 := Lib.hid (Hm2.out.below hb)
  replace p0 := keepc hb p0
  replace p1 := keepc hb p1
  replace lp := Nat.lt_of_lt_of_le lp hb.size
  clear hb
  clear Hm2
  go_wp2_with fail
  generalize hV : w8.alloc (.cells #[.int .i64 1, .int .i64 2] 3) = w9 at *
  have Hm3 := Lib.hid (show Sk .i64 w9 (some ⟨w8.heap.size, 0, none⟩) [1, 2] from (hV ▸ sk_rowF [1, 2] (heap_alloc_new w8 _)))
  have hb : Below w8.heap.size w8 w9 := hV ▸ below_new _ _
  replace HB := Lib.hid (on_below HB.out hb)
  replace HS := Lib.hid (HS.out.on hb)
  replace p0 := keepc hb p0
  replace p1 := keepc hb p1
  replace lp := Nat.lt_of_lt_of_le lp hb.size
  clear hb
  clear hV
  generalize w8.heap.size = bm3 at *
  refine (verify_n 2 E Sx _ 2 2 [1, 2] rfl _ _ HF'.out.we HF'.out.wb _ HS.out (by decide) i_two Hm3.out).mono ?_
  rintro e_ w10 ⟨rfl, hb⟩
  replace HB := Lib.hid (on_below HB.out hb)
  replace HS := Lib.hid (HS.out.on hb)
  replace Hm3 := Lib.hid (Hm3.out.below hb)
  replace p0 := keepc hb p0
  replace p1 := keepc hb p1
  replace lp := Nat.lt_of_lt_of_le lp hb.size
  clear hb
  clear Hm3
  go_wp2_with fail
  generalize hV : w10.alloc (.cells (zer 33) 3) = w11 at *
  have Hm4 := Lib.hid (show Sk .i64 w11 (some ⟨w10.heap.size, 0, none⟩) (zrs 33) from (hV ▸ sk_rowF (zrs 33) (heap_alloc_new w10 _)))
  have hb : Below w10.heap.size w10 w11 := hV ▸ below_new _ _
  replace HB := Lib.hid (on_below HB.out hb)
  replace HS := Lib.hid (HS.out.on hb)
  replace p0 := keepc hb p0
  replace p1 := keepc hb p1
  replace lp := Nat.lt_of_lt_of_le lp hb.size
  clear hb
  clear hV
  generalize w10.heap.size = bm4 at *
  refine (sign_n 5 7 _ 33 33 (zrs 33) (zrs_len 33) _ _ _ HF'.out.xe HF'.out.xc HF'.out.xs _ HS.out (by decide) (zrs_i 33) Hm4.out).mono ?_
  rintro e_ w12 ⟨rfl, hb⟩
  replace HB := Lib.hid (on_below HB.out hb)
  replace HS := Lib.hid (HS.out.on hb)
  replace Hm4 := Lib.hid (Hm4.out.below hb)
  replace p0 := keepc hb p0
  replace p1 := keepc hb p1
  replace lp := Nat.lt_of_lt_of_le lp hb.size
  clear hb
  clear Hm4
  go_wp2_with fail
  have q0 : World.cell? (w12.alloc (.cells #[.int .i64 0, .int .i64 0] 23)) ⟨w12.heap.size, 0, none⟩ = some (.int .i64 0) := by simp [go_sem]
  have q1 : World.cell? (w12.alloc (.cells #[.int .i64 0, .int .i64 0] 23)) ⟨w12.heap.size, 1, none⟩ = some (.int .i64 0) := by simp [go_sem]
  have lq : w12.heap.size < (w12.alloc (.cells #[.int .i64 0, .int .i64 0] 23)).heap.size := by simp
  have hb : Below w12.heap.size w12 (w12.alloc (.cells #[.int .i64 0, .int .i64 0] 23)) := below_new _ _
  have zq : (w12.alloc (.cells #[.int .i64 0, .int .i64 0] 23)).heap.size = w12.heap.size + 1 := by simp
  generalize w12.alloc (.cells #[.int .i64 0, .int .i64 0] 23) = w13 at *
  replace HB := Lib.hid (on_below HB.out hb)
  replace HS := Lib.hid (HS.out.on hb)
  replace p0 := keepc hb p0
  replace p1 := keepc hb p1
  replace lp := Nat.lt_of_lt_of_le lp hb.size
  clear hb
  generalize w12.heap.size = gq at *
  generalize hV : w13.alloc (.cells (zer 32) 3) = w14 at *
  have Hm5 := Lib.hid (show Sk .i64 w14 (some ⟨gq + 1, 0, none⟩) (zrs 32) from (by rw [← zq]; exact (hV ▸ sk_rowF (zrs 32) (heap_alloc_new w13 _))))
  have hb : Below w13.heap.size w13 w14 := hV ▸ below_new _ _
  replace HB := Lib.hid (on_below HB.out hb)
  replace HS := Lib.hid (HS.out.on hb)
  replace p0 := keepc hb p0
  replace p1 := keepc hb p1
  replace q0 := keepc hb q0
  replace q1 := keepc hb q1
  replace lp := Nat.lt_of_lt_of_le lp hb.size
  replace lq := Nat.lt_of_lt_of_le lq hb.size
  clear hb
  clear hV zq
  have nm5 : gq < gq + 1 := Nat.lt_succ_self _
  generalize gq + 1 = bm5 at *
  refine (sign_n 5 7 _ 32 32 (zrs 32) (zrs_len 32) _ _ _ HF'.out.ye HF'.out.yc HF'.out.ys _ HS.out (by decide) (zrs_i 32) Hm5.out).mono ?_
  rintro e_ w15 ⟨rfl, hb⟩
  replace HB := Lib.hid (on_below HB.out hb)
  replace HS := Lib.hid (HS.out.on hb)
  replace Hm5 := Lib.hid (Hm5.out.below hb)
  replace p0 := keepc hb p0
  replace p1 := keepc hb p1
  replace q0 := keepc hb q0
  replace q1 := keepc hb q1
  replace lp := Nat.lt_of_lt_of_le lp hb.size
  replace lq := Nat.lt_of_lt_of_le lq hb.size
  clear hb
  clear Hm5
  go_wp2_with fail
  have r0 : World.cell? (w15.alloc (.cells #[.int .i64 E2, .int .i64 S2] 23)) ⟨w15.heap.size, 0, none⟩ = some (.int .i64 E2) := by simp [go_sem]
  have r1 : World.cell? (w15.alloc (.cells #[.int .i64 E2, .int .i64 S2] 23)) ⟨w15.heap.size, 1, none⟩ = some (.int .i64 S2) := by simp [go_sem]
  have lr : w15.heap.size < (w15.alloc (.cells #[.int .i64 E2, .int .i64 S2] 23)).heap.size := by simp
  have hb : Below w15.heap.size w15 (w15.alloc (.cells #[.int .i64 E2, .int .i64 S2] 23)) := below_new _ _
  have zr : (w15.alloc (.cells #[.int .i64 E2, .int .i64 S2] 23)).heap.size = w15.heap.size + 1 := by simp
  generalize w15.alloc (.cells #[.int .i64 E2, .int .i64 S2] 23) = w16 at *
  replace HB := Lib.hid (on_below HB.out hb)
  replace HS := Lib.hid (HS.out.on hb)
  replace p0 := keepc hb p0
  replace p1 := keepc hb p1
  replace q0 := keepc hb q0
  replace q1 := keepc hb q1
  replace lp := Nat.lt_of_lt_of_le lp hb.size
  replace lq := Nat.lt_of_lt_of_le lq hb.size
  clear hb
  generalize w15.heap.size = gr at *
  go_ret
  exact ⟨rfl, HB.out⟩
end Go.Proofs.YtiapigoknlaihaaDoor
