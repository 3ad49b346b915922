/-
  Package money: times, Scale, Exchange, for all ints.
-/
import Derived.Test.YtanncjkkaeeiaaaGreatDoorMonB
namespace Go.Proofs.YtanncjkkaeeiaaaGreatDoor
open Go.RowKit Go.Sort
open Go.RowKit (Below)

def Bd (x : Int) : Prop := -1000000000 ≤ x ∧ x ≤ 1000000000
theorem mul_bd {x y : Int} (hx : Bd x) (hy : Bd y) : -1000000000000000000 ≤ x * y ∧ x * y ≤ 1000000000000000000 := by
  have h : (x * y).natAbs ≤ 1000000000 * 1000000000 := by
    rw [Int.natAbs_mul]
    exact Nat.mul_le_mul (by have := hx.1; have := hx.2; omega) (by have := hy.1; have := hy.2; omega)
  generalize x * y = z at h
  omega
theorem am_bd {x : Int} : am x = true ↔ Bd x := am_iff
theorem Bd.i64 {x : Int} (h : Bd x) : I64 x := ⟨by have := h.1; omega, by have := h.2; omega⟩

/-- An amount times a number, rounded. -/
def tms (c N D : Int) : Int := sgd (c * N) ((2 * (c * N).natAbs + D) / (2 * D))

set_option maxHeartbeats 400000 in
theorem times_amt (c N D : Int) (w : World) (hc : Bd c) (hN : Bd N) (hD : 1 ≤ D) (hD2 : D ≤ 1000000000) :
    Calls Tryz.prog 23 #[.int .i64 c, .agg #[.int .i64 N, .int .i64 D]] w fun e w' => e = .returned (.int .i64 (tms c N D)) ∧ Below w.heap.size w w' := by
  have hp := mul_bd hc hN
  have e0 : wrap64 (c * N) = c * N := IntWalk.wrap64_in _ ⟨by omega, by omega⟩
  have HT := Lib.hid (show sgd (wrap64 (c * N)) ((2 * (wrap64 (c * N)).natAbs + D) / (2 * D)) = tms c N D by rw [e0]; rfl)
  rw [← e0] at hp
  clear e0 hc hN
  have HP := Lib.hid hp
  clear hp
  go_enter Tryz.func23, Tryz.ntmps23
  go_wp2
  generalize wrap64 (c * N) = p at *
  obtain ⟨hp1, hp2⟩ := HP.out
  go_quiet ((go_at_call 38; exact quiet_left (abs_amt _ _ (by omega) (by omega))))
  have hq : 0 ≤ (2 * (p.natAbs : Int) + D) / (2 * D) ∧ (2 * (p.natAbs : Int) + D) / (2 * D) ≤ 3000000000000000000 := by
    refine ⟨Int.ediv_nonneg (by omega) (by omega), ?_⟩
    exact Int.le_trans (Int.ediv_le_self _ (by omega)) (by omega)
  generalize (2 * (p.natAbs : Int) + D) / (2 * D) = q at *
  go_wp2_with (go_at_call 39; refine (signed_any _ _ _ (by omega) (by omega)).mono ?_; rintro e w' ⟨rfl, rfl⟩)
  go_ret
  exact ⟨ret_int HT.out, below_drewN' ((Below.refl _ _).alloc (Nat.le_refl _) _) _⟩

theorem block_lt {w : World} {a : Addr} {v : Value} (h : w.cell? a = some v) : a.block < w.heap.size := by
  refine Nat.lt_of_not_le fun hle => ?_
  unfold World.cell? at h
  rw [Array.getElem?_eq_none hle] at h
  cases h
/-- Block g holds the pair N, D. -/
def Pr (w : World) (g : Nat) (N D : Int) : Prop := w.cell? ⟨g, 0, none⟩ = some (.int .i64 N) ∧ w.cell? ⟨g, 1, none⟩ = some (.int .i64 D)
theorem Pr.on {w w' : World} {g : Nat} {N D : Int} (p : Pr w g N D) (hb : Below w.heap.size w w') : Pr w' g N D :=
  ⟨by rw [hb.cell (block_lt p.1)]; exact p.1, by rw [hb.cell (block_lt p.2)]; exact p.2⟩
theorem Pr.lt {w : World} {g : Nat} {N D : Int} (p : Pr w g N D) : g < w.heap.size := block_lt p.1
theorem Pr.alloc {w : World} {g : Nat} {N D : Int} (p : Pr w g N D) (o : Obj) : Pr (w.alloc o) g N D :=
  p.on ((Below.refl _ _).alloc (Nat.le_refl _) _)
theorem Pr.next {w w' : World} {o : Obj} {g : Nat} {N D : Int} (p : Pr w g N D) (hb : Below (w.alloc o).heap.size (w.alloc o) w') : Pr w' g N D := (p.alloc o).on hb
theorem Pr.here (w : World) (N D : Int) (t : TypeId) : Pr (w.alloc (.cells #[.int .i64 N, .int .i64 D] t)) w.heap.size N D := ⟨by simp [go_sem], by simp [go_sem]⟩
theorem Pr.new {w w' : World} {N D : Int} {t : TypeId} (hb : Below (w.alloc (.cells #[.int .i64 N, .int .i64 D] t)).heap.size (w.alloc (.cells #[.int .i64 N, .int .i64 D] t)) w') : Pr w' w.heap.size N D := (Pr.here w N D t).on hb

/-- Block g holds the pair N, D, and may be written. -/
def Lc (w : World) (g : Nat) (N D : Int) : Prop := Pr w g N D ∧ w.frozen? ⟨g, 0, none⟩ = false ∧ w.frozen? ⟨g, 1, none⟩ = false
theorem Lc.on {w w' : World} {g : Nat} {N D : Int} (p : Lc w g N D) (hb : Below w.heap.size w w') : Lc w' g N D :=
  ⟨p.1.on hb, by rw [hb.frozen (block_lt p.1.1)]; exact p.2.1, by rw [hb.frozen (block_lt p.1.2)]; exact p.2.2⟩
theorem Lc.next {w w' : World} {o : Obj} {g : Nat} {N D : Int} (p : Lc w g N D) (hb : Below (w.alloc o).heap.size (w.alloc o) w') : Lc w' g N D :=
  (p.on ((Below.refl _ _).alloc (Nat.le_refl _) o)).on hb
theorem Lc.here (w : World) (N D : Int) (t : TypeId) : Lc (w.alloc (.cells #[.int .i64 N, .int .i64 D] t)) w.heap.size N D := ⟨Pr.here w N D t, by simp [go_sem], by simp [go_sem]⟩
theorem Lc.new {w w' : World} {N D : Int} {t : TypeId} (hb : Below (w.alloc (.cells #[.int .i64 N, .int .i64 D] t)).heap.size (w.alloc (.cells #[.int .i64 N, .int .i64 D] t)) w') : Lc w' w.heap.size N D := (Lc.here w N D t).on hb
theorem Lc.lt {w : World} {g : Nat} {N D : Int} (p : Lc w g N D) : g < w.heap.size := p.1.lt

section
variable {w w' : World} {g h : Nat} {N D x y : Int}
theorem Pr.set (p : Pr w g N D) (ne : g ≠ h) : Pr ((w.setCell ⟨h, 0, none⟩ (.int .i64 x)).setCell ⟨h, 1, none⟩ (.int .i64 y)) g N D :=
  ⟨by rw [World.cell?_setCell_far _ _ _ _ (by simp; omega), World.cell?_setCell_far _ _ _ _ (by simp; omega)]; exact p.1,
   by rw [World.cell?_setCell_far _ _ _ _ (by simp; omega), World.cell?_setCell_far _ _ _ _ (by simp; omega)]; exact p.2⟩
theorem Lc.set (p : Lc w g N D) (ne : g ≠ h) : Lc ((w.setCell ⟨h, 0, none⟩ (.int .i64 x)).setCell ⟨h, 1, none⟩ (.int .i64 y)) g N D :=
  ⟨p.1.set ne, by rw [World.frozen?_setCell, World.frozen?_setCell]; exact p.2.1, by rw [World.frozen?_setCell, World.frozen?_setCell]; exact p.2.2⟩
theorem Lc.put (p : Lc w g N D) : Lc ((w.setCell ⟨g, 0, none⟩ (.int .i64 x)).setCell ⟨g, 1, none⟩ (.int .i64 y)) g x y := by
  obtain ⟨⟨c0, c1⟩, f0, f1⟩ := p
  refine ⟨⟨?_, ?_⟩, by rw [World.frozen?_setCell, World.frozen?_setCell]; exact f0, by rw [World.frozen?_setCell, World.frozen?_setCell]; exact f1⟩
  · simp [go_sem, c0]
  · simp [go_sem, c1]
theorem on_set {w0 : World} (b : Below w0.heap.size w0 w) (hh : w0.heap.size ≤ h) (hb : Below ((w.setCell ⟨h, 0, none⟩ (.int .i64 x)).setCell ⟨h, 1, none⟩ (.int .i64 y)).heap.size ((w.setCell ⟨h, 0, none⟩ (.int .i64 x)).setCell ⟨h, 1, none⟩ (.int .i64 y)) w') :
    Below w0.heap.size w0 w' ∧ w.heap.size ≤ w'.heap.size :=
  ⟨((b.setCell hh _).setCell hh _).trans (hb.mono (by have := b.size; simp; omega)), by have := hb.size; simpa using this⟩
end

/-- Behind a call that follows a new block: what the new block and the elder ones hold is held on. -/
theorem on_new {w w1 w2 : World} {o : Obj} (b : Below w.heap.size w w1) (hb : Below (w1.alloc o).heap.size (w1.alloc o) w2) : Below w.heap.size w w2 ∧ w1.heap.size < w2.heap.size :=
  ⟨(b.alloc b.size _).trans (hb.mono (by have := b.size; simp; omega)), by have := hb.size; simp at this; omega⟩
theorem on_same {w w1 w2 : World} (b : Below w.heap.size w w1) (hb : Below w1.heap.size w1 w2) : Below w.heap.size w w2 ∧ w1.heap.size ≤ w2.heap.size :=
  ⟨b.trans (hb.mono b.size), hb.size⟩


/-- The error and the result of Scale. -/
def sclE (c N D : Int) : Int := if (am c && vld N D) = true then rsE (tms c N D) else 1
def sclN (c N D : Int) : Int := if (am c && vld N D) = true then rsN (tms c N D) else 0

set_option maxHeartbeats 400000 in
theorem scale_any (c N D : Int) (w : World) (hN : I64 N) (hD : I64 D) :
    Calls Tryz.prog 8 #[.int .i64 c, .agg #[.int .i64 N, .int .i64 D]] w fun e w' => e = .returned (.tuple #[.int .i64 (sclN c N D), .int .i64 (sclE c N D)]) ∧ Below w.heap.size w w' := by
  have HI := Lib.hid (And.intro hN hD)
  clear hN hD
  cases ha : am c with
  | false =>
    have HA := Lib.hid ha
    have h1 : sclN c N D = 0 := by simp [sclN, ha]
    have h2 : sclE c N D = 1 := by simp [sclE, ha]
    rw [h1, h2]
    clear ha h1 h2
    go_enter Tryz.func8, Tryz.ntmps8
    go_wp2_with (go_at_call 19; refine (valid_amt_b _ false HA.out _).mono ?_; rintro e w' ⟨rfl, rfl⟩)
    go_ret2
    exact ⟨rfl, (Below.refl _ _).alloc (Nat.le_refl _) _⟩
  | true =>
    have HA := Lib.hid ha
    cases hv : vld N D with
    | false =>
      have HV := Lib.hid hv
      have h1 : sclN c N D = 0 := by simp [sclN, hv]
      have h2 : sclE c N D = 1 := by simp [sclE, hv]
      rw [h1, h2]
      clear ha hv h1 h2
      go_enter Tryz.func8, Tryz.ntmps8
      go_wp2_with (go_at_call 19; refine (valid_amt_b _ true HA.out _).mono ?_; rintro e w' ⟨rfl, rfl⟩)
      refine (valid_b _ _ false HV.out _ HI.out.1 HI.out.2).mono ?_
      rintro e w1 ⟨rfl, hb⟩
      go_wp2_with fail
      go_ret2
      exact ⟨rfl, ((Below.refl _ _).alloc (Nat.le_refl _) _).trans (hb.mono (by simp))⟩
    | true =>
      have HV := Lib.hid hv
      have h1 : sclN c N D = rsN (tms c N D) := by simp [sclN, hv, ha]
      have h2 : sclE c N D = rsE (tms c N D) := by simp [sclE, hv, ha]
      rw [h1, h2]
      have hc := am_bd.1 ha
      obtain ⟨v1, v2, v3, v4, -⟩ := (vld_iff N D).1 hv
      have HT := Lib.hid (fun W => times_amt c N D W hc ⟨v3, v4⟩ v1 v2)
      clear ha hv h1 h2 hc v1 v2 v3 v4
      go_enter Tryz.func8, Tryz.ntmps8
      go_wp2_with (go_at_call 19; refine (valid_amt_b _ true HA.out _).mono ?_; rintro e w' ⟨rfl, rfl⟩)
      refine (valid_b _ _ true HV.out _ HI.out.1 HI.out.2).mono ?_
      rintro e w1 ⟨rfl, hb⟩
      have p := Pr.new hb
      have b1 := on_new (Below.refl w.heap.size w) hb
      have ⟨p0, p1⟩ := p
      have pl := p.lt
      clear hb
      go_wp2_with fail
      clear p0 p1 pl
      refine (HT.out _).mono ?_
      rintro e w2 ⟨rfl, hb2⟩
      have b2 := on_same b1.1 hb2
      go_wp2_with (go_at_call 20; refine (result_any _ _).mono ?_; rintro e w' ⟨rfl, rfl⟩)
      go_ret2
      exact ⟨rfl, b2.1⟩

/-- Are these arguments of Exchange? -/
def exok (c f t N D : Int) : Bool := am c && (cur f && (cur t && (vld N D && decide (0 < N))))
theorem exok_iff {c f t N D : Int} : exok c f t N D = true ↔ am c = true ∧ cur f = true ∧ cur t = true ∧ vld N D = true ∧ 0 < N := by simp [exok]
/-- The error and the result of Exchange. -/
def excE (c f t N D : Int) : Int := if exok c f t N D = true then (if f = t then 0 else if f = 1 then rsE (tms c D N) else rsE (tms c N D)) else 1
def excN (c f t N D : Int) : Int := if exok c f t N D = true then (if f = t then c else if f = 1 then rsN (tms c D N) else rsN (tms c N D)) else 0
theorem exc_no {c f t N D : Int} (h : exok c f t N D = false) : excN c f t N D = 0 ∧ excE c f t N D = 1 := by simp [excN, excE, h]
set_option maxRecDepth 100000 in
set_option maxHeartbeats 800000 in
theorem exc_f1 (c f t N D : Int) (w : World) (ha : am c = false) :
    Calls Tryz.prog 15 #[.int .i64 c, .int .i64 f, .int .i64 t, .agg #[.int .i64 N, .int .i64 D]] w fun e w' => e = .returned (.tuple #[.int .i64 0, .int .i64 1]) ∧ Below w.heap.size w w' := by
  have HA := Lib.hid ha
  clear ha
  go_enter Tryz.func15, Tryz.ntmps15
  go_wp2_with (first | (go_at_call 19; refine (valid_amt_b _ false HA.out _).mono ?_; rintro e w' ⟨rfl, rfl⟩))
  go_ret2
  exact ⟨rfl, (Below.refl _ _).alloc (Nat.le_refl _) _⟩
set_option maxRecDepth 100000 in
set_option maxHeartbeats 800000 in
theorem exc_f2 (c f t N D : Int) (w : World) (ha : am c = true) (hf : cur f = false) :
    Calls Tryz.prog 15 #[.int .i64 c, .int .i64 f, .int .i64 t, .agg #[.int .i64 N, .int .i64 D]] w fun e w' => e = .returned (.tuple #[.int .i64 0, .int .i64 1]) ∧ Below w.heap.size w w' := by
  have HA := Lib.hid ha
  clear ha
  have HF := Lib.hid hf
  clear hf
  go_enter Tryz.func15, Tryz.ntmps15
  go_wp2_with (first | (go_at_call 19; refine (valid_amt_b _ true HA.out _).mono ?_; rintro e w' ⟨rfl, rfl⟩) | (go_at_call 28; refine (cur_b f false HF.out _).mono ?_; rintro e w' ⟨rfl, rfl⟩))
  go_ret2
  exact ⟨rfl, (Below.refl _ _).alloc (Nat.le_refl _) _⟩
set_option maxRecDepth 100000 in
set_option maxHeartbeats 800000 in
theorem exc_f3 (c f t N D : Int) (w : World) (ha : am c = true) (hf : cur f = true) (ht : cur t = false) :
    Calls Tryz.prog 15 #[.int .i64 c, .int .i64 f, .int .i64 t, .agg #[.int .i64 N, .int .i64 D]] w fun e w' => e = .returned (.tuple #[.int .i64 0, .int .i64 1]) ∧ Below w.heap.size w w' := by
  have HA := Lib.hid ha
  clear ha
  have HF := Lib.hid hf
  clear hf
  have HT := Lib.hid ht
  clear ht
  go_enter Tryz.func15, Tryz.ntmps15
  go_wp2_with (first | (go_at_call 19; refine (valid_amt_b _ true HA.out _).mono ?_; rintro e w' ⟨rfl, rfl⟩) | (go_at_call 28; (first | (with_reducible refine (cur_b f true HF.out _).mono ?_) | (with_reducible refine (cur_b t false HT.out _).mono ?_)); rintro e w' ⟨rfl, rfl⟩))
  go_ret2
  exact ⟨rfl, (Below.refl _ _).alloc (Nat.le_refl _) _⟩
set_option maxRecDepth 100000 in
set_option maxHeartbeats 800000 in
theorem exc_f4 (c f t N D : Int) (w : World) (ha : am c = true) (hf : cur f = true) (ht : cur t = true) (hv : vld N D = false) (hi : I64 N ∧ I64 D) :
    Calls Tryz.prog 15 #[.int .i64 c, .int .i64 f, .int .i64 t, .agg #[.int .i64 N, .int .i64 D]] w fun e w' => e = .returned (.tuple #[.int .i64 0, .int .i64 1]) ∧ Below w.heap.size w w' := by
  have HA := Lib.hid ha
  clear ha
  have HF := Lib.hid hf
  clear hf
  have HT := Lib.hid ht
  clear ht
  have HV := Lib.hid hv
  clear hv
  have HI := Lib.hid hi
  clear hi
  go_enter Tryz.func15, Tryz.ntmps15
  go_wp2_with (first | (go_at_call 19; refine (valid_amt_b _ true HA.out _).mono ?_; rintro e w' ⟨rfl, rfl⟩) | (go_at_call 28; (first | (with_reducible refine (cur_b f true HF.out _).mono ?_) | (with_reducible refine (cur_b t true HT.out _).mono ?_)); rintro e w' ⟨rfl, rfl⟩))
  refine (valid_b _ _ false HV.out _ HI.out.1 HI.out.2).mono ?_
  rintro e w1 ⟨rfl, hb⟩
  go_wp2_with fail
  go_ret2
  exact ⟨rfl, ((Below.refl _ _).alloc (Nat.le_refl _) _).trans (hb.mono (by simp))⟩
set_option maxRecDepth 100000 in
set_option maxHeartbeats 800000 in
theorem exc_f5 (c f t N D : Int) (w : World) (ha : am c = true) (hf : cur f = true) (ht : cur t = true) (hv : vld N D = true) (hi : I64 N ∧ I64 D) (hn : N ≤ 0) :
    Calls Tryz.prog 15 #[.int .i64 c, .int .i64 f, .int .i64 t, .agg #[.int .i64 N, .int .i64 D]] w fun e w' => e = .returned (.tuple #[.int .i64 0, .int .i64 1]) ∧ Below w.heap.size w w' := by
  have HA := Lib.hid ha
  clear ha
  have HF := Lib.hid hf
  clear hf
  have HT := Lib.hid ht
  clear ht
  have HV := Lib.hid hv
  clear hv
  have HI := Lib.hid hi
  clear hi
  go_enter Tryz.func15, Tryz.ntmps15
  go_wp2_with (first | (go_at_call 19; refine (valid_amt_b _ true HA.out _).mono ?_; rintro e w' ⟨rfl, rfl⟩) | (go_at_call 28; (first | (with_reducible refine (cur_b f true HF.out _).mono ?_) | (with_reducible refine (cur_b t true HT.out _).mono ?_)); rintro e w' ⟨rfl, rfl⟩))
  refine (valid_b _ _ true HV.out _ HI.out.1 HI.out.2).mono ?_
  rintro e w1 ⟨rfl, hb⟩
  have p := Lc.new hb
  have b1 := on_new (Below.refl w.heap.size w) hb
  have ⟨⟨p0, p1⟩, q0, q1⟩ := p
  have pl := p.lt
  clear hb
  go_wp2_with fail
  go_ret2
  exact ⟨rfl, b1.1⟩
set_option maxRecDepth 100000 in
set_option maxHeartbeats 800000 in
theorem exc_same (c f t N D : Int) (w : World) (ha : am c = true) (hf : cur f = true) (ht : cur t = true) (hv : vld N D = true) (hi : I64 N ∧ I64 D) (hn : 0 < N) (e : f = t) :
    Calls Tryz.prog 15 #[.int .i64 c, .int .i64 f, .int .i64 t, .agg #[.int .i64 N, .int .i64 D]] w fun e w' => e = .returned (.tuple #[.int .i64 c, .int .i64 0]) ∧ Below w.heap.size w w' := by
  subst e
  have HA := Lib.hid ha
  clear ha
  have HF := Lib.hid hf
  clear hf
  have HV := Lib.hid hv
  clear hv
  have HI := Lib.hid hi
  clear hi
  have HT := HF
  go_enter Tryz.func15, Tryz.ntmps15
  go_wp2_with (first | (go_at_call 19; refine (valid_amt_b _ true HA.out _).mono ?_; rintro e w' ⟨rfl, rfl⟩) | (go_at_call 28; (first | (with_reducible refine (cur_b f true HF.out _).mono ?_) | (with_reducible refine (cur_b t true HT.out _).mono ?_)); rintro e w' ⟨rfl, rfl⟩))
  refine (valid_b _ _ true HV.out _ HI.out.1 HI.out.2).mono ?_
  rintro e w1 ⟨rfl, hb⟩
  have p := Lc.new hb
  have b1 := on_new (Below.refl w.heap.size w) hb
  have ⟨⟨p0, p1⟩, q0, q1⟩ := p
  have pl := p.lt
  clear hb
  go_wp2_with fail
  go_ret2
  exact ⟨rfl, b1.1⟩
set_option maxRecDepth 100000 in
set_option maxHeartbeats 800000 in
theorem exc_fe (c N D : Int) (w : World) (ha : am c = true) (hv : vld N D = true) (hi : I64 N ∧ I64 D) (hn : 0 < N) :
    Calls Tryz.prog 15 #[.int .i64 c, .int .i64 0, .int .i64 1, .agg #[.int .i64 N, .int .i64 D]] w fun e w' => e = .returned (.tuple #[.int .i64 (rsN (tms c N D)), .int .i64 (rsE (tms c N D))]) ∧ Below w.heap.size w w' := by
  have hc := am_bd.1 ha
  obtain ⟨v1, v2, v3, v4, -⟩ := (vld_iff N D).1 hv
  have HTM := Lib.hid (fun W => times_amt c N D W hc ⟨by omega, by omega⟩ (by omega) (by omega))
  clear hc v1 v2 v3 v4
  have HA := Lib.hid ha
  clear ha
  have HV := Lib.hid hv
  clear hv
  have HI := Lib.hid hi
  clear hi
  have HF := Lib.hid (show cur 0 = true by decide)
  have HT := Lib.hid (show cur 1 = true by decide)
  go_enter Tryz.func15, Tryz.ntmps15
  go_wp2_with (first | (go_at_call 19; refine (valid_amt_b _ true HA.out _).mono ?_; rintro e w' ⟨rfl, rfl⟩) | (go_at_call 28; (first | (with_reducible refine (cur_b 0 true HF.out _).mono ?_) | (with_reducible refine (cur_b 1 true HT.out _).mono ?_)); rintro e w' ⟨rfl, rfl⟩))
  refine (valid_b _ _ true HV.out _ HI.out.1 HI.out.2).mono ?_
  rintro e w1 ⟨rfl, hb⟩
  have p := Lc.new hb
  have b1 := on_new (Below.refl w.heap.size w) hb
  have ⟨⟨p0, p1⟩, q0, q1⟩ := p
  have pl := p.lt
  clear hb
  go_wp2_with fail
  clear p0 p1 q0 q1 pl
  refine (HTM.out _).mono ?_
  rintro e w2 ⟨rfl, hb2⟩
  have b2 := on_same b1.1 hb2
  go_wp2_with (go_at_call 20; refine (result_any _ _).mono ?_; rintro e w' ⟨rfl, rfl⟩)
  go_ret2
  exact ⟨rfl, b2.1⟩
set_option maxRecDepth 100000 in
set_option maxHeartbeats 800000 in
theorem exc_ef (c N D : Int) (w : World) (ha : am c = true) (hv : vld N D = true) (hi : I64 N ∧ I64 D) (hn : 0 < N) :
    Calls Tryz.prog 15 #[.int .i64 c, .int .i64 1, .int .i64 0, .agg #[.int .i64 N, .int .i64 D]] w fun e w' => e = .returned (.tuple #[.int .i64 (rsN (tms c D N)), .int .i64 (rsE (tms c D N))]) ∧ Below w.heap.size w w' := by
  have hc := am_bd.1 ha
  obtain ⟨v1, v2, v3, v4, -⟩ := (vld_iff N D).1 hv
  have HTM := Lib.hid (fun W => times_amt c D N W hc ⟨by omega, by omega⟩ (by omega) (by omega))
  clear hc v1 v2 v3 v4
  have HA := Lib.hid ha
  clear ha
  have HV := Lib.hid hv
  clear hv
  have HI := Lib.hid hi
  clear hi
  have HF := Lib.hid (show cur 1 = true by decide)
  have HT := Lib.hid (show cur 0 = true by decide)
  go_enter Tryz.func15, Tryz.ntmps15
  go_wp2_with (first | (go_at_call 19; refine (valid_amt_b _ true HA.out _).mono ?_; rintro e w' ⟨rfl, rfl⟩) | (go_at_call 28; (first | (with_reducible refine (cur_b 1 true HF.out _).mono ?_) | (with_reducible refine (cur_b 0 true HT.out _).mono ?_)); rintro e w' ⟨rfl, rfl⟩))
  refine (valid_b _ _ true HV.out _ HI.out.1 HI.out.2).mono ?_
  rintro e w1 ⟨rfl, hb⟩
  have p := Lc.new hb
  have b1 := on_new (Below.refl w.heap.size w) hb
  have ⟨⟨p0, p1⟩, q0, q1⟩ := p
  have pl := p.lt
  clear hb
  go_wp2_with fail
  clear p0 p1 q0 q1 pl
  refine (HTM.out _).mono ?_
  rintro e w2 ⟨rfl, hb2⟩
  have b2 := on_set (h := w.heap.size) b1.1 (Nat.le_refl _) hb2
  go_wp2_with (go_at_call 20; refine (result_any _ _).mono ?_; rintro e w' ⟨rfl, rfl⟩)
  go_ret2
  exact ⟨rfl, b2.1⟩
theorem exchange_any (c f t N D : Int) (w : World) (hN : I64 N) (hD : I64 D) :
    Calls Tryz.prog 15 #[.int .i64 c, .int .i64 f, .int .i64 t, .agg #[.int .i64 N, .int .i64 D]] w fun e w' => e = .returned (.tuple #[.int .i64 (excN c f t N D), .int .i64 (excE c f t N D)]) ∧ Below w.heap.size w w' := by
  cases ha : am c with
  | false => rw [(exc_no (by simp [exok, ha])).1, (exc_no (by simp [exok, ha])).2]; exact exc_f1 c f t N D w ha
  | true =>
    cases hf : cur f with
    | false => rw [(exc_no (by simp [exok, hf])).1, (exc_no (by simp [exok, hf])).2]; exact exc_f2 c f t N D w ha hf
    | true =>
      cases ht : cur t with
      | false => rw [(exc_no (by simp [exok, ht])).1, (exc_no (by simp [exok, ht])).2]; exact exc_f3 c f t N D w ha hf ht
      | true =>
        cases hv : vld N D with
        | false => rw [(exc_no (by simp [exok, hv])).1, (exc_no (by simp [exok, hv])).2]; exact exc_f4 c f t N D w ha hf ht hv ⟨hN, hD⟩
        | true =>
          by_cases hn : 0 < N
          · have hk : exok c f t N D = true := exok_iff.2 ⟨ha, hf, ht, hv, hn⟩
            rw [excN, excE, if_pos hk, if_pos hk]
            by_cases e : f = t
            · rw [if_pos e, if_pos e]; exact exc_same c f t N D w ha hf ht hv ⟨hN, hD⟩ hn e
            · rw [if_neg e, if_neg e]
              rcases cur_iff.1 hf with rfl | rfl
              · rcases cur_iff.1 ht with rfl | rfl
                · exact absurd rfl e
                · rw [if_neg (by omega), if_neg (by omega)]; exact exc_fe c N D w ha hv ⟨hN, hD⟩ hn
              · rcases cur_iff.1 ht with rfl | rfl
                · rw [if_pos rfl, if_pos rfl]; exact exc_ef c N D w ha hv ⟨hN, hD⟩ hn
                · exact absurd rfl e
          · rw [(exc_no (by simp [exok, hn])).1, (exc_no (by simp [exok, hn])).2]; exact exc_f5 c f t N D w ha hf ht hv ⟨hN, hD⟩ (by omega)
end Go.Proofs.YtanncjkkaeeiaaaGreatDoor
