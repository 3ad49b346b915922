/-
  Package money: divide, for every amount and all weights.
-/
import Derived.Test.YtanncjkkaeeiaaaGreatDoorMonE
import Derived.Test.YtanncjkkaeeiaaaGreatDoorShelf
namespace Go.Proofs.YtanncjkkaeeiaaaGreatDoor
open Go.RowKit Go.Sort
open Go.RowKit (Below)

theorem Row.grown {w w' : World} {b n : Nat} {f : Nat → Int} (h : Row w b n f) (g : w.grownBy w' none) (hb : b < w.heap.size) : Row w' b n f := h.same (g.block b hb (by simp))
theorem below_made {B : Nat} {a w w' : World} (h : Below B a w) (g : w.grownBy w' none) (hB : B ≤ w.heap.size) : Below B a w' := h.grown g hB (by simp)
theorem own_lt {w : World} {base : Nat} {e : TypeId} {b n : Nat} {xs : List Value} (h : w.ownsRow base e 1 (.slice (some ⟨b, 0, none⟩) n n) n xs) (hn : 0 < n) : b < w.heap.size := by
  have h1 := World.ownsRow.cellAt h 0 (by omega)
  have hl : 0 < xs.length := by have := h.1; omega
  rw [List.getElem?_eq_getElem hl] at h1
  exact block_lt h1

section
variable (c : Int) (ws : List Int)
/-- What the first loop has laid after k rounds. -/
structure L1 (w : World) (pb rb gb ob k : Nat) (wr : World) : Prop where
  p : Row wr pb ws.length (fun j => if j < k then sgd c (c.natAbs * gd ws j / ws.sum) else 0)
  r : Row wr rb ws.length (fun j => if j < k then c.natAbs * gd ws j % ws.sum else 0)
  o : Row wr ob ws.length (fun j => if j < k then (j : Int) else 0)
  box : wr.cell? ⟨gb, 0, none⟩ = some (.slice (some ⟨rb, 0, none⟩) ws.length ws.length)
  bl : Below w.heap.size w wr
  ne : w.heap.size ≤ pb ∧ pb < rb ∧ rb < gb ∧ gb < ob ∧ ob < wr.heap.size
end

theorem L1.drewN {c : Int} {ws : List Int} {w wr : World} {pb rb gb ob k : Nat} (h : L1 c ws w pb rb gb ob k wr) (n : Nat) : L1 c ws w pb rb gb ob k (wr.drewN n) :=
  ⟨h.p, h.r, h.o, h.box, below_drewN' h.bl n, h.ne⟩

theorem L1.start {c : Int} {ws : List Int} {w w1 w2 w3 : World} {e t : TypeId} (hn : 1 ≤ ws.length) (own1 : w1.ownsRow 0 e 1 (.slice (some ⟨w.heap.size, 0, none⟩) ws.length ws.length) ws.length (madeCells (Value.int .i64 0).cells (ws.length * 1)).toList) (gr1 : w.grownBy w1 none)
    (own2 : w2.ownsRow 0 e 1 (.slice (some ⟨w1.heap.size, 0, none⟩) ws.length ws.length) ws.length (madeCells (Value.int .i64 0).cells (ws.length * 1)).toList) (gr2 : w1.grownBy w2 none)
    (own3 : w3.ownsRow 0 e 1 (.slice (some ⟨(w2.alloc (.cells #[.slice (some ⟨w1.heap.size, 0, none⟩) ws.length ws.length] t)).heap.size, 0, none⟩) ws.length ws.length) ws.length (madeCells (Value.int .i64 0).cells (ws.length * 1)).toList)
    (gr3 : (w2.alloc (.cells #[.slice (some ⟨w1.heap.size, 0, none⟩) ws.length ws.length] t)).grownBy w3 none) : L1 c ws w w.heap.size w1.heap.size w2.heap.size (w2.heap.size + 1) 0 w3 := by
  have b1 := own_lt own1 (by omega)
  have b2 := own_lt own2 (by omega)
  have b3 := own_lt own3 (by omega)
  have ea : (w2.alloc (.cells #[.slice (some ⟨w1.heap.size, 0, none⟩) ws.length ws.length] t)).heap.size = w2.heap.size + 1 := by simp
  rw [ea] at own3 b3
  refine ⟨?_, ?_, ?_, ?_, ?_, Nat.le_refl _, b1, b2, Nat.lt_succ_self _, b3⟩
  · exact ((((row_made own1).grown gr2 b1).alloc (by omega) _).grown gr3 (by omega)).congr fun j _ => by simp
  · exact (((row_made own2).alloc (by omega) _).grown gr3 (by omega)).congr fun j _ => by simp
  · exact (row_made own3).congr fun j _ => by simp
  · rw [World.cell?_of_block (a := ⟨w2.heap.size, 0, none⟩) (gr3.block w2.heap.size (by omega) (by simp))]
    simp [go_sem]
  · exact below_made ((below_made (below_made (Below.refl _ _) gr1 (Nat.le_refl _)) gr2 (by omega)).alloc (by omega) _) gr3 (by omega)

theorem L1.step {c : Int} {ws : List Int} {w wr : World} {pb rb gb ob k : Nat} (h : L1 c ws w pb rb gb ob k wr) (hk : k < ws.length) {v : Int} (hv : (c.natAbs : Int) * gd ws k = v) :
    L1 c ws w pb rb gb ob (k + 1) (((wr.setCell ⟨pb, k, none⟩ (.int .i64 (sgd c (v / ws.sum)))).setCell ⟨rb, k, none⟩ (.int .i64 (v % ws.sum))).setCell ⟨ob, k, none⟩ (.int .i64 k)).drew := by
  obtain ⟨n1, n2, n3, n4, n5⟩ := h.ne
  refine ⟨?_, ?_, ?_, ?_, ?_, n1, n2, n3, n4, by simpa using n5⟩
  · refine ((((h.p.set' hk (g := fun j => if j < k + 1 then sgd c (c.natAbs * gd ws j / ws.sum) else 0) fun j hj => ?_).far (p := ⟨rb, k, none⟩) (by show pb ≠ rb; omega) _).far (p := ⟨ob, k, none⟩) (by show pb ≠ ob; omega) _).drew)
    by_cases e : j = k
    · subst e; rw [if_pos rfl, if_pos (by omega), hv]
    · rw [if_neg e]
      by_cases e2 : j < k
      · rw [if_pos e2, if_pos (by omega)]
      · rw [if_neg e2, if_neg (by omega)]
  · refine (((h.r.far (p := ⟨pb, k, none⟩) (by show rb ≠ pb; omega) _).set' hk (g := fun j => if j < k + 1 then c.natAbs * gd ws j % ws.sum else 0) fun j hj => ?_).far (p := ⟨ob, k, none⟩) (by show rb ≠ ob; omega) _).drew
    by_cases e : j = k
    · subst e; rw [if_pos rfl, if_pos (by omega), hv]
    · rw [if_neg e]
      by_cases e2 : j < k
      · rw [if_pos e2, if_pos (by omega)]
      · rw [if_neg e2, if_neg (by omega)]
  · refine (((h.o.far (p := ⟨pb, k, none⟩) (by show ob ≠ pb; omega) _).far (p := ⟨rb, k, none⟩) (by show ob ≠ rb; omega) _).set' hk (g := fun j => if j < k + 1 then (j : Int) else 0) fun j hj => ?_).drew
    by_cases e : j = k
    · subst e; rw [if_pos rfl, if_pos (by omega)]
    · rw [if_neg e]
      by_cases e2 : j < k
      · rw [if_pos e2, if_pos (by omega)]
      · rw [if_neg e2, if_neg (by omega)]
  · show World.cell? (World.drew _) _ = _
    rw [World.cell?_of_block (a := ⟨gb, 0, none⟩) (w := wr)]
    · exact h.box
    · show (World.setCell _ _ _).heap[gb]? = _
      rw [Below.heap_setCell _ _ _ _ (by show gb ≠ ob; omega), Below.heap_setCell _ _ _ _ (by show gb ≠ rb; omega), Below.heap_setCell _ _ _ _ (by show gb ≠ pb; omega)]
  · exact (((h.bl.setCell (p := ⟨pb, k, none⟩) n1 _).setCell (p := ⟨rb, k, none⟩) (by show _ ≤ rb; omega) _).setCell (p := ⟨ob, k, none⟩) (by show _ ≤ ob; omega) _).drew

theorem gd_rests (s W : Int) (ws : List Int) {j : Nat} (h : j < ws.length) : gd (rests s W ws) j = s * gd ws j % W := by
  rw [gd_at h]; exact rests_at s W ws h

theorem sort_any (rs : List Int) (n gb rb ob c c' : Nat) (w : World) (hn : 0 < n) (h64 : n ≤ 64) (hg : gb ≠ ob) (hr : rb ≠ ob) (h0 : w.cell? ⟨gb, 0, none⟩ = some (.slice (some ⟨rb, 0, none⟩) n c)) (hR : Row w rb n (gd rs)) (hO : Row w ob n (fun j => (j : Int))) :
    Calls Tryz.prog 43 #[.slice (some ⟨ob, 0, none⟩) n c', .func (.func 44) #[] #[.pointer (some ⟨gb, 0, none⟩)]] w fun e w' => e = .returned (.tuple #[]) ∧ ∃ l, SortedTo rs n ob w w' l := by
  haveI : Inhabited (Fin n) := ⟨⟨0, hn⟩⟩
  have hsz : (Array.ofFn (fun i : Fin n => i)).size = n := by simp
  have hH : Holds (encF n) w ob 0 (Array.ofFn (fun i : Fin n => i)) := by
    intro j hj
    rw [hsz] at hj
    rw [getElem!_pos _ j (by simpa using hj), Nat.zero_add]
    have := hO j hj
    simpa [encF] using this
  have hd : (Array.ofFn (fun i : Fin n => i)).toList.map Fin.val = List.range n := by
    apply List.ext_getElem
    · simp
    · intro i h1 h2; simp
  have hob : ob < w.heap.size := hO.lt hn
  have h := Tryz.slices_SortFunc (encF n) (fun _ => rfl) (cfF rs n) (swoF rs n) 44 #[.pointer (some ⟨gb, 0, none⟩)] ob 0 c' (Array.ofFn (fun i : Fin n => i)) w (fun args W => by simp [go_sem]) (by rw [hsz]; exact cmp_lays rs n gb rb c ob w hg hr h0 hR) hH hob (by rw [hsz]; omega)
  rw [hsz] at h
  refine h.mono fun e w' ⟨he, d', m, os, hp, hs, hw⟩ => ⟨he, d'.toList.map Fin.val, ?_⟩
  subst hw
  exact sorted_of hd hob hH (by rw [hsz]; exact hp) (by rw [hsz]; exact hs)

theorem sgd_add (c x y : Int) : sgd c x + sgd c y = sgd c (x + y) := by unfold sgd; split <;> omega
theorem sgd_bd {c x m : Int} (h : -m ≤ x ∧ x ≤ m) : -m ≤ sgd c x ∧ sgd c x ≤ m := by unfold sgd; split <;> omega

/-- What the second loop has laid after t rounds. -/
structure L2 (c : Int) (ws : List Int) (l : List Nat) (w : World) (pb ob t : Nat) (wr : World) : Prop where
  p : Row wr pb ws.length (fun j => sgd c (c.natAbs * gd ws j / ws.sum + if rk (rests c.natAbs ws.sum ws) j < t then 1 else 0))
  o : Row wr ob ws.length (fun k => (l.getD k 0 : Nat))
  bl : Below w.heap.size w wr
  ne : w.heap.size ≤ pb ∧ pb < ob

theorem L2.start {c : Int} {ws : List Int} {l : List Nat} {w wr w' : World} {pb rb gb ob k : Nat} (h : L1 c ws w pb rb gb ob k wr) (hk : ¬ k < ws.length) (s : SortedTo (rests c.natAbs ws.sum ws) ws.length ob wr w' l) : L2 c ws l w pb ob 0 w' := by
  obtain ⟨n1, n2, n3, n4, n5⟩ := h.ne
  refine ⟨?_, s.row, h.bl.trans (s.below.mono (by omega)), n1, by omega⟩
  exact (h.p.same (s.other pb (by omega) (by omega))).congr fun j hj => by rw [if_pos (by omega), if_neg (by omega)]; simp

theorem L2.step {c : Int} {ws : List Int} {l : List Nat} {w wr : World} {pb ob t x : Nat} (h : L2 c ws l w pb ob t wr) (hx : x < ws.length) (hr : rk (rests c.natAbs ws.sum ws) x = t) {y : Int} (hy : y = sgd c (c.natAbs * gd ws x / ws.sum + 1)) :
    L2 c ws l w pb ob (t + 1) ((wr.setCell ⟨pb, x, none⟩ (.int .i64 y)).drew) := by
  obtain ⟨n1, n2⟩ := h.ne
  refine ⟨?_, (h.o.far (p := ⟨pb, x, none⟩) (by show ob ≠ pb; omega) _).drew, (h.bl.setCell (p := ⟨pb, x, none⟩) n1 _).drew, n1, n2⟩
  refine (h.p.set' hx fun j hj => ?_).drew
  by_cases e : j = x
  · subst e; rw [if_pos rfl, hy, if_pos (by omega)]
  · rw [if_neg e]
    have hne : rk (rests c.natAbs ws.sum ws) j ≠ t := fun e2 => e (rk_inj (by rw [rests_len]; exact hj) (by rw [rests_len]; exact hx) (by rw [e2, hr]))
    by_cases e2 : rk (rests c.natAbs ws.sum ws) j < t
    · rw [if_pos e2, if_pos (by omega)]
    · rw [if_neg e2, if_neg (by omega)]

/-- What is missing after k rounds. -/
def mis (c : Int) (ws : List Int) (k : Nat) : Int := c.natAbs - ((ws.take k).map fun x => c.natAbs * x / ws.sum).sum
theorem mis_step (c : Int) (ws : List Int) (k : Nat) (h : k < ws.length) : mis c ws (k + 1) = mis c ws k - c.natAbs * gd ws k / ws.sum := by
  unfold mis
  rw [List.take_succ_eq_append_getElem h, List.map_append, List.sum_append, gd_at h]
  simp; omega
theorem mis_all (c : Int) (ws : List Int) (k : Nat) (h : ¬ k < ws.length) : mis c ws k = left c.natAbs ws.sum ws := by
  unfold mis left
  rw [List.take_of_length_le (by omega)]
theorem q_bd {c x W : Int} (hc : Bd c) (hx : 0 ≤ x ∧ x ≤ 1000000) (hW : 0 < W) : 0 ≤ (c.natAbs : Int) * x ∧ (c.natAbs : Int) * x ≤ 1000000000000000 ∧ 0 ≤ (c.natAbs : Int) * x / W ∧ (c.natAbs : Int) * x / W ≤ 1000000000000000 ∧ 0 ≤ (c.natAbs : Int) * x % W ∧ (c.natAbs : Int) * x % W < W := by
  have h0 : 0 ≤ (c.natAbs : Int) * x := Int.mul_nonneg (by omega) hx.1
  have h1 : (c.natAbs : Int) * x ≤ 1000000000 * 1000000 := by
    have a1 : (c.natAbs : Int) * x ≤ 1000000000 * x := Int.mul_le_mul_of_nonneg_right (by have := hc.1; have := hc.2; omega) hx.1
    omega
  exact ⟨h0, by omega, Int.ediv_nonneg h0 (by omega), Int.le_trans (Int.ediv_le_self _ h0) (by omega), Int.emod_nonneg _ (by omega), Int.emod_lt_of_pos _ hW⟩
theorem mis_bd (c : Int) (ws : List Int) (hc : Bd c) (hl : ws.length ≤ 64) (hx : ∀ x ∈ ws, 0 ≤ x ∧ x ≤ 1000000) (hW : 0 < ws.sum) (k : Nat) : -100000000000000000 ≤ mis c ws k ∧ mis c ws k ≤ 1000000000 := by
  have h := sum_bd (m := 1000000000000000) ((ws.take k).map fun x => c.natAbs * x / ws.sum) fun y hy => by
    obtain ⟨x, hxm, rfl⟩ := List.mem_map.1 hy
    have := q_bd hc (hx x (List.mem_of_mem_take hxm)) hW
    omega
  have h0 : 0 ≤ ((ws.take k).map fun x => c.natAbs * x / ws.sum).sum := by
    have : ∀ l : List Int, (∀ y ∈ l, 0 ≤ y) → 0 ≤ l.sum := by
      intro l
      induction l with
      | nil => simp
      | cons a l ih => intro h; have := h a (by simp); have := ih fun y hy => h y (by simp [hy]); simp only [List.sum_cons]; omega
    refine this _ fun y hy => ?_
    obtain ⟨x, hxm, rfl⟩ := List.mem_map.1 hy
    exact (q_bd hc (hx x (List.mem_of_mem_take hxm)) hW).2.2.1
  have h2 : ((ws.take k).map fun x => (c.natAbs : Int) * x / ws.sum).length ≤ 64 := by simp; omega
  have := hc.1
  have := hc.2
  unfold mis
  omega

set_option maxRecDepth 100000 in
set_option maxHeartbeats 1000000 in
theorem divide_any (c : Int) (A : Option Addr) (cap : Nat) (ws : List Int) (w : World) (hc : Bd c) (hn : 1 ≤ ws.length) (hl : ws.length ≤ 64) (hx : ∀ x ∈ ws, 0 ≤ x ∧ x ≤ 1000000) (hW : 0 < ws.sum) (hS : Sl w A ws) :
    Calls Tryz.prog 26 #[.int .i64 c, .slice A ws.length cap] w fun e w' => ∃ pb, e = .returned (.slice (some ⟨pb, 0, none⟩) ws.length ws.length) ∧ w.heap.size ≤ pb ∧ Row w' pb ws.length (fun j => sgd c (part c.natAbs ws j)) ∧ Below w.heap.size w w' := by
  obtain ⟨i0, hi0, hz0, hz1, hz2⟩ := info_parts (show (Tryz.prog.info? 3).map (fun i => (i.zero, i.size, i.bytes)) = some (some (.int .i64 0), 1, 8) by kernel_rfl)
  have HS := Lib.hid hS
  have HX := Lib.hid hx
  have HC := Lib.hid hc
  have hc1 := hc.1
  have hc2 := hc.2
  have HW := Lib.hid hW
  clear hS hx hc hW
  have tok1 : True := trivial
  have tok2 : True := trivial
  have tok3 : True := trivial
  go_enter Tryz.func26, Tryz.ntmps26
  go_wp2_with (first
    | (go_at_call 42; refine (sum_any _ _ _ _ (by omega) HX.out HS.out).mono ?_; rintro e w' ⟨rfl, rfl⟩)
    | (go_at_call 38; refine (abs_amt _ _ (by omega) (by omega)).mono ?_; rintro e w' ⟨rfl, rfl⟩)
    | (at_make; have _t := tok1; refine wpList_make_full _ rfl _ _ 22 rfl 0 3 i0 (.int .i64 0) 1 Tryz.underlying22 hi0 hz0 hz1 .i64 .i64 _ _ ws.length rfl rfl rfl rfl (by rw [hz2]; omega) (by unfold maxLen; omega) (Nat.zero_le _) ?_; intro w1 own1 gr1; clear tok1)
    | (at_make; have _t := tok2; refine wpList_make_full _ rfl _ _ 22 rfl 0 3 i0 (.int .i64 0) 1 Tryz.underlying22 hi0 hz0 hz1 .i64 .i64 _ _ ws.length rfl rfl rfl rfl (by rw [hz2]; omega) (by unfold maxLen; omega) (Nat.zero_le _) ?_; intro w2 own2 gr2; clear tok2)
    | (at_make; have _t := tok3; refine wpList_make_full _ rfl _ _ 22 rfl 0 3 i0 (.int .i64 0) 1 Tryz.underlying22 hi0 hz0 hz1 .i64 .i64 _ _ ws.length rfl rfl rfl rfl (by rw [hz2]; omega) (by unfold maxLen; omega) (Nat.zero_le _) ?_; intro w3 own3 gr3; clear tok3))
  have HL := Lib.hid (L1.start (c := c) hn own1 gr1 own2 gr2 own3 gr3)
  clear own1 gr1 own2 gr2 own3 gr3
  generalize w1.heap.size = rb at *
  generalize w2.heap.size = gb at *
  have HM := Lib.hid (fun k => mis_bd c ws HC.out hl HX.out HW.out k)
  go_loopw [6, 29] (fun m i wr => ∃ k : Nat, k ≤ ws.length ∧ i = .int .i64 k ∧ m = .int .i64 (mis c ws k) ∧ Hid (L1 c ws w w.heap.size rb gb (gb + 1) k wr)) (fun _ i _ => ws.length - (intOf i).toNat)
  case atStart => exact ⟨0, Nat.zero_le _, rfl, by simp [mis], HL⟩
  case round =>
    clear HL
    obtain ⟨k, hk, rfl, rfl, HL⟩ := hrel
    by_cases hlt : k < ws.length
    · obtain ⟨b, o, rfl, hcw⟩ := (HS.out.below HL.out.bl) k hlt
      have hxk := HX.out _ (getD_mem hlt)
      have hq := q_bd HC.out hxk HW.out
      have e0 : wrap64 ((c.natAbs : Int) * gd ws k) = (c.natAbs : Int) * gd ws k := IntWalk.wrap64_in _ ⟨by omega, by omega⟩
      have HE := Lib.hid e0
      have HQ := Lib.hid hq
      clear e0 hq
      go_wp2
      go_quiet ((go_at_call 38; exact quiet_left (abs_amt _ _ (by omega) (by omega))))
      go_wp2_with fail
      rw [HE.out]
      clear HE
      replace HL := Lib.hid (HL.out.drewN nq)
      clear hcw
      generalize wr.drewN nq = wq at *
      clear wr
      have hbox := HL.out.box
      have hfp := (HL.out.p k hlt).2
      have hfr := (HL.out.r k hlt).2
      have hfo := (HL.out.o k hlt).2
      have hcp := (HL.out.p k hlt).1
      have hcr := (HL.out.r k hlt).1
      have hco := (HL.out.o k hlt).1
      have ⟨hn1, hn2, hn3, hn4, hn5⟩ := HL.out.ne
      generalize hv : (c.natAbs : Int) * gd ws k = v at *
      have ⟨hv1, hv2, hv3, hv4, hv5, hv6⟩ := HQ.out
      have hW1 := HW.out
      have ⟨hm1, hm2⟩ := HM.out k
      have HV := Lib.hid hv
      clear hv
      have hz : ws.sum ≠ 0 := by omega
      have eq1 : IntKind.i64.wrap (v.tdiv ws.sum) = v / ws.sum := by
        rw [Int.tdiv_eq_ediv_of_nonneg hv1]; exact IntWalk.i64_in _ ⟨by omega, by omega⟩
      have er1 : IntKind.i64.wrap (v.tmod ws.sum) = v % ws.sum := by
        rw [Int.tmod_eq_emod_of_nonneg hv1]
        have h1 := Int.emod_lt_of_pos v hW1
        have h2 : v % ws.sum ≤ v := by
          have h3 := Int.mul_ediv_add_emod v ws.sum
          have h4 : 0 ≤ ws.sum * (v / ws.sum) := Int.mul_nonneg (by omega) hv3
          omega
        exact IntWalk.i64_in _ ⟨by omega, by omega⟩
      go_region_with (first | (go_at_call 39; refine (signed_any _ _ _ (by omega) (by omega)).mono ?_; rintro e w' ⟨rfl, rfl⟩))
      all_goals
        go_wp2
        go_roundw
        case rel => exact ⟨k + 1, by omega, by go_num, by rw [mis_step c ws k hlt, HV.out], HL.out.step hlt HV.out⟩
        case measure => simp [intOf]; omega
    · have hlen : 0 < ws.length := by omega
      have hls := mis_all c ws k hlt
      have hl0 := (left_bd (c.natAbs : Int) ws HW.out).1
      have hl1 := left_le (c.natAbs : Int) ws HW.out
      obtain ⟨m, hme⟩ : ∃ m : Nat, left c.natAbs ws.sum ws = m := ⟨(left c.natAbs ws.sum ws).toNat, by omega⟩
      rw [hme] at hls hl1
      rw [hls]
      have HME := Lib.hid hme
      have hml : m ≤ ws.length := by omega
      clear hls hl0 hl1 hme
      have ⟨hn1, hn2, hn3, hn4, hn5⟩ := HL.out.ne
      have HSO := Lib.hid (sort_any (rests c.natAbs ws.sum ws) ws.length gb rb (gb + 1) ws.length ws.length wr hlen hl (by omega) (by omega) HL.out.box (HL.out.r.congr fun j hj => by rw [if_pos (by omega), gd_rests _ _ _ hj]) (HL.out.o.congr fun j hj => by rw [if_pos (by omega)]))
      go_wp2_with (go_at_call 43; refine HSO.out.mono ?_; rintro e w4 ⟨rfl, l, hso⟩)
      have HL2 := Lib.hid (L2.start HL.out hlt hso)
      have hlp := (hso.perm.length_eq).trans List.length_range
      have HP := Lib.hid (fun t (ht : t < ws.length) => show l.getD t 0 < ws.length ∧ rk (rests c.natAbs ws.sum ws) (l.getD t 0) = t by
        have h1 : t < l.length := by rw [hlp]; exact ht
        have e : l.getD t 0 = l[t] := by simp [List.getD_eq_getElem?_getD, h1]
        rw [e]
        exact ⟨List.mem_range.1 (hso.perm.mem_iff.1 (List.getElem_mem h1)), rk_of_sorted (by rw [rests_len]; exact hso.perm) hso.pw t h1⟩)
      clear hlp hso HSO HL HS
      generalize gb + 1 = ob at *
      go_loopw [70] (fun i wr => ∃ t : Nat, t ≤ m ∧ i = .int .i64 t ∧ Hid (L2 c ws l w w.heap.size ob t wr)) (fun i _ => m - (intOf i).toNat)
      case atStart => exact ⟨0, Nat.zero_le _, rfl, HL2⟩
      case round =>
        clear HL2
        obtain ⟨t, ht, rfl, HL2⟩ := hrel
        by_cases htm : t < m
        · have hco : wr.cell? ⟨ob, t, none⟩ = some (.int .i64 ((l.getD t 0 : Nat) : Int)) := (HL2.out.o t (by omega)).1
          have ⟨hx1, hx2⟩ := HP.out t (by omega)
          generalize l.getD t 0 = x at hco hx1 hx2
          have hcp : wr.cell? ⟨w.heap.size, x, none⟩ = some (.int .i64 (sgd c (c.natAbs * gd ws x / ws.sum + if rk (rests c.natAbs ws.sum ws) x < t then 1 else 0))) := (HL2.out.p x hx1).1
          have hfp := (HL2.out.p x hx1).2
          have hq := q_bd HC.out (HX.out _ (getD_mem hx1)) HW.out
          rw [if_neg (by omega), Int.add_zero] at hcp
          have HY := Lib.hid (sgd_add c (c.natAbs * gd ws x / ws.sum) 1)
          have hb1 := sgd_bd (c := c) (x := c.natAbs * gd ws x / ws.sum) (m := 1000000000000000) (by omega)
          have hb2 := sgd_bd (c := c) (x := 1) (m := 1) (by omega)
          generalize hy1 : sgd c (c.natAbs * gd ws x / ws.sum) = y at hcp HY hb1
          have HX2 := Lib.hid hx2
          clear hx2 hq hy1
          have hxx : (x : Int) < ws.length := by omega
          have hew : IntKind.i64.wrap (y + sgd c 1) = y + sgd c 1 := IntWalk.i64_in _ ⟨by omega, by omega⟩
          go_wp2_with fail
          go_region_with (first | (go_at_call 39; refine (signed_any _ _ _ (by omega) (by omega)).mono ?_; rintro e w' ⟨rfl, rfl⟩))
          all_goals
            go_wp2
            go_roundw
            case rel => exact ⟨t + 1, by omega, by go_num, HL2.out.step hx1 HX2.out HY.out⟩
            case measure => simp [intOf]; omega
        · go_wp2_with fail
          go_ret
          have htm2 : t = m := by omega
          subst htm2
          refine ⟨_, rfl, Nat.le_refl _, HL2.out.p.congr fun j hj => ?_, HL2.out.bl⟩
          unfold part up
          rw [HME.out]
          show sgd c _ = sgd c (_ * gd ws j / _ + _)
          congr 2
          by_cases e : rk (rests c.natAbs ws.sum ws) j < t
          · rw [if_pos e, if_pos (by omega)]
          · rw [if_neg e, if_neg (by omega)]
end Go.Proofs.YtanncjkkaeeiaaaGreatDoor
