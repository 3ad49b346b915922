/-
  Plain facts for layer 9: bodies, targets and lines as lists; the first body that blocks; the mediant. Package sight: isBelow, has, mediant, clipBy; what is wrong with a target, a body; what is at the eye. slices.IndexFunc and slices.ContainsFunc at targets, at lines and at bodies, for any closure. Package sight: areTargets, suits, areBodies, areNumbered, errorOf.
-/
import Derived.Test.YtiffgcipdamngaaZShpPJ
import Derived.Test.YtiffgcipdamngaaZShpW
import Derived.Test.YtiffgcipdamngaaZShpPA
import Derived.Test.YtiffgcipdamngaaZShpPQ
import Derived.LoopN
namespace Go.Proofs.Ytiffgcipdamngaa
open Go.RowKit
open Go.RowKit (Below)
set_option linter.unusedVariables false
set_option linter.unusedSimpArgs false

/-! ### What lies in memory -/
structure Bv where
  A : Option Addr
  C : Nat
  xs : List (Int × Int)
  lo : Int
  hi : Int
/-- Four numbers: a target (its point, its weight), or a line (its target, its body, a part of the way). -/
structure Q4 where
  a : Int
  b : Int
  c : Int
  d : Int
deriving DecidableEq
def gdB (L : List Bv) (k : Nat) : Bv := L.getD k ⟨none, 0, [], 0, 0⟩
def gd4 (L : List Q4) (k : Nat) : Q4 := L.getD k ⟨0, 0, 0, 0⟩
theorem gdB_at {L : List Bv} {k : Nat} (h : k < L.length) : gdB L k = L[k] := by unfold gdB; rw [List.getD_eq_getElem?_getD, List.getElem?_eq_getElem h]; rfl
theorem gd4_at {L : List Q4} {k : Nat} (h : k < L.length) : gd4 L k = L[k] := by unfold gd4; rw [List.getD_eq_getElem?_getD, List.getElem?_eq_getElem h]; rfl
/-- A slice of bodies that can be read. -/
def BdS (w : World) (A : Option Addr) (L : List Bv) : Prop :=
  ∀ k, k < L.length → ∃ b o, A = some ⟨b, o, none⟩ ∧ w.cell? ⟨b, o + k * 3, none⟩ = some (.slice (gdB L k).A (gdB L k).xs.length (gdB L k).C) ∧
    w.cell? ⟨b, o + k * 3 + 1, none⟩ = some (.int .i64 (gdB L k).lo) ∧ w.cell? ⟨b, o + k * 3 + 2, none⟩ = some (.int .i64 (gdB L k).hi) ∧
    SlS w (gdB L k).A (gdB L k).xs
/-- The bases are no longer than a slice can be, less one. -/
def Bsm (L : List Bv) : Prop := ∀ k, k < L.length → (gdB L k).xs.length ≤ 9223372036854775806
/-- A slice of quadruples that can be read. -/
def S4 (w : World) (A : Option Addr) (T : List Q4) : Prop :=
  ∀ k, k < T.length → ∃ b o, A = some ⟨b, o, none⟩ ∧ w.cell? ⟨b, o + k * 4, none⟩ = some (.int .i64 (gd4 T k).a) ∧ w.cell? ⟨b, o + k * 4 + 1, none⟩ = some (.int .i64 (gd4 T k).b) ∧
    w.cell? ⟨b, o + k * 4 + 2, none⟩ = some (.int .i64 (gd4 T k).c) ∧ w.cell? ⟨b, o + k * 4 + 3, none⟩ = some (.int .i64 (gd4 T k).d)
theorem cell_low {w w' : World} {a : Addr} {v : Value} (hb : Below w.heap.size w w') (h : w.cell? a = some v) : w'.cell? a = some v := by rw [hb.cell (block_lt h)]; exact h
theorem BdS.below {w w' : World} {A : Option Addr} {L : List Bv} (h : BdS w A L) (hb : Below w.heap.size w w') : BdS w' A L := fun k hk => by
  obtain ⟨b, o, e, h1, h2, h3, h4⟩ := h k hk
  exact ⟨b, o, e, cell_low hb h1, cell_low hb h2, cell_low hb h3, h4.below hb⟩
theorem S4.below {w w' : World} {A : Option Addr} {T : List Q4} (h : S4 w A T) (hb : Below w.heap.size w w') : S4 w' A T := fun k hk => by
  obtain ⟨b, o, e, h1, h2, h3, h4⟩ := h k hk
  exact ⟨b, o, e, cell_low hb h1, cell_low hb h2, cell_low hb h3, cell_low hb h4⟩
theorem BdS.nil (w : World) (A : Option Addr) : BdS w A [] := fun k hk => absurd hk (Nat.not_lt_zero k)
theorem S4.nil (w : World) (A : Option Addr) : S4 w A [] := fun k hk => absurd hk (Nat.not_lt_zero k)
theorem BdS.take {w : World} {A : Option Addr} {L : List Bv} (h : BdS w A L) (n : Nat) : BdS w A (L.take n) := fun k hk => by
  rw [List.length_take] at hk
  have e : gdB (L.take n) k = gdB L k := by unfold gdB; rw [List.getD_eq_getElem?_getD, List.getD_eq_getElem?_getD, List.getElem?_take, if_pos (by omega)]
  rw [e]
  exact h k (by omega)

/-! ### What blocks -/
section
variable (ex ey ez x y z : Int)
def rng (b : Bv) : Rg := clp r0 (cnd b.xs b.lo b.hi ex ey ez x y z)
def hit (b : Bv) : Bool := hitB (rng ex ey ez x y z b)
def medN (r : Rg) : Int := mkN (r.ln + r.hn) (r.ld + r.hd)
def medD (r : Rg) : Int := mkD (r.ln + r.hn) (r.ld + r.hd)
/-- The first body that blocks; the number of bodies, if none does. -/
def frs (L : List Bv) : Nat := L.findIdx (hit ex ey ez x y z)
/-- The line of the i-th target. -/
def lin (L : List Bv) (i : Int) : Q4 :=
  if frs ex ey ez x y z L < L.length then ⟨i, frs ex ey ez x y z L, medN (rng ex ey ez x y z (gdB L (frs ex ey ez x y z L))), medD (rng ex ey ez x y z (gdB L (frs ex ey ez x y z L)))⟩
  else ⟨i, -1, 0, 1⟩
end
section
variable {ex ey ez x y z : Int} {L : List Bv}
theorem frs_at {k : Nat} (hk : k < L.length) (h : hit ex ey ez x y z (gdB L k) = true) (hb : ∀ j, j < k → hit ex ey ez x y z (gdB L j) = false) : frs ex ey ez x y z L = k := by
  unfold frs
  rw [List.findIdx_eq hk]
  rw [gdB_at hk] at h
  refine ⟨h, fun j hj => ?_⟩
  have := hb j hj
  rwa [gdB_at (by omega)] at this
theorem frs_none (h : ∀ j, j < L.length → hit ex ey ez x y z (gdB L j) = false) : frs ex ey ez x y z L = L.length := by
  unfold frs
  rw [List.findIdx_eq_length]
  intro b hb
  obtain ⟨j, hj, rfl⟩ := List.getElem_of_mem hb
  have := h j hj
  rwa [gdB_at hj] at this
theorem frs_le : frs ex ey ez x y z L ≤ L.length := List.findIdx_le_length

theorem frs_before {j : Nat} (h : j < frs ex ey ez x y z L) : hit ex ey ez x y z (gdB L j) = false := by
  have hl : j < L.length := Nat.lt_of_lt_of_le h frs_le
  rw [gdB_at hl]
  exact List.not_of_lt_findIdx h
theorem lin_hit (h : frs ex ey ez x y z L < L.length) (i : Int) : lin ex ey ez x y z L i = ⟨i, frs ex ey ez x y z L, medN (rng ex ey ez x y z (gdB L (frs ex ey ez x y z L))), medD (rng ex ey ez x y z (gdB L (frs ex ey ez x y z L)))⟩ := by unfold lin; rw [if_pos h]
theorem lin_none (h : frs ex ey ez x y z L = L.length) (i : Int) : lin ex ey ez x y z L i = ⟨i, -1, 0, 1⟩ := by unfold lin; rw [if_neg (by omega)]
theorem lin_a (i : Int) : (lin ex ey ez x y z L i).a = i := by unfold lin; split <;> rfl
end
/-- How many of the first k bodies block. -/
def bcn (p : Bv → Bool) (L : List Bv) : Nat → Nat
  | 0 => 0
  | k + 1 => bcn p L k + if p (gdB L k) = true then 1 else 0
theorem bcn_mono (p : Bv → Bool) (L : List Bv) {a b : Nat} (h : a ≤ b) : bcn p L a ≤ bcn p L b := by
  induction h with
  | refl => exact Nat.le_refl _
  | step _ ih => exact Nat.le_trans ih (Nat.le_add_right _ _)
theorem bcn_zero {p : Bv → Bool} {L : List Bv} {k : Nat} (h : bcn p L k = 0) {j : Nat} (hj : j < k) : p (gdB L j) = false := by
  have h1 := bcn_mono p L (show j + 1 ≤ k from hj)
  cases hp : p (gdB L j)
  · rfl
  · have h2 : bcn p L (j + 1) = bcn p L j + 1 := by show _ + (if _ then 1 else 0) = _; rw [if_pos hp]
    omega
/-! ### The results of Clip -/
theorem clres_hit {r : Rg} (h : hitB r = true) : clres r = ⟨r.ln, r.ld, r.hn, r.hd, true⟩ := by unfold clres; rw [if_pos h]
theorem clres_no {r : Rg} (h : hitB r = false) : clres r = ⟨0, 1, 0, 1, false⟩ := by unfold clres; rw [if_neg (by rw [h]; decide)]
/-! ### Valid arguments -/
def tgb (t : Q4) : Bool := !(vv t.a t.b t.c) || decide (t.d < 1) || decide (100 < t.d)
/-- Targets are valid; an eye suits them; bodies are valid. -/
def Tok (T : List Q4) : Prop := 0 < T.length ∧ ∀ k, k < T.length → tgb (gd4 T k) = false
def Sut (ex ey ez : Int) (T : List Q4) : Prop := V3 ex ey ez ∧ ∀ k, k < T.length → ¬ ((gd4 T k).a = ex ∧ (gd4 T k).b = ey ∧ (gd4 T k).c = ez)
def Bds (L : List Bv) : Prop := ∀ k, k < L.length → Bok (gdB L k).xs (gdB L k).lo (gdB L k).hi
/-- The error of Lines and Check. -/
def Wrg (ex ey ez : Int) (T : List Q4) (L : List Bv) (E : Int) : Prop :=
  ((60 < T.length ∨ 60 < L.length) ∧ E = 2) ∨ (T.length ≤ 60 ∧ L.length ≤ 60 ∧ ¬ (Tok T ∧ Sut ex ey ez T ∧ Bds L) ∧ E = 1) ∨ (T.length ≤ 60 ∧ L.length ≤ 60 ∧ Tok T ∧ Sut ex ey ez T ∧ Bds L ∧ E = 0)
/-- Lines are numbered. -/
def Num (N : List Q4) (n : Nat) : Prop := N.length = n ∧ ∀ k, k < n → (gd4 N k).a = k
/-- The lines. -/
def lns (ex ey ez : Int) (T : List Q4) (L : List Bv) : List Q4 := (List.range T.length).map fun i => lin ex ey ez (gd4 T i).a (gd4 T i).b (gd4 T i).c L i
theorem lns_len (ex ey ez : Int) (T : List Q4) (L : List Bv) : (lns ex ey ez T L).length = T.length := by unfold lns; simp
theorem lns_at {ex ey ez : Int} {T : List Q4} {L : List Bv} {i : Nat} (h : i < T.length) : gd4 (lns ex ey ez T L) i = lin ex ey ez (gd4 T i).a (gd4 T i).b (gd4 T i).c L i := by
  rw [gd4_at (by rw [lns_len]; exact h)]; unfold lns; simp


end Go.Proofs.Ytiffgcipdamngaa

namespace Go.Proofs.Ytiffgcipdamngaa
open Go.RowKit Go.Sort
open Go.RowKit (Below)
set_option linter.unusedVariables false
set_option linter.unusedSimpArgs false
set_option maxRecDepth 100000 in
set_option maxHeartbeats 2000000 in
theorem med_is (a b c d n m : Int) (i1 : -100000000 ≤ a ∧ a ≤ 100000000) (i2 : -100000000 ≤ b ∧ b ≤ 100000000) (i3 : -100000000 ≤ c ∧ c ≤ 100000000) (i4 : -100000000 ≤ d ∧ d ≤ 100000000) (hn : mkN (a + c) (b + d) = n) (hd : mkD (a + c) (b + d) = m) (w : World) :
    Calls Try.prog 69 #[.agg #[.int .i64 a, .int .i64 b, .int .i64 c, .int .i64 d]] w fun e_ w' => e_ = .returned (.agg #[.int .i64 n, .int .i64 m]) ∧ Below w.heap.size w w' := by
  have wf0 : IntKind.i64.wrap (a + c) = a + c := IntWalk.i64_in _ ⟨by omega, by omega⟩
  have wg0 : wrap64 (a + c) = a + c := IntWalk.wrap64_in _ ⟨by omega, by omega⟩
  have wf1 : IntKind.i64.wrap (b + d) = b + d := IntWalk.i64_in _ ⟨by omega, by omega⟩
  have wg1 : wrap64 (b + d) = b + d := IntWalk.wrap64_in _ ⟨by omega, by omega⟩
  have HM := Lib.hid (fun W => make_any (a + c) (b + d) W ⟨by omega, by omega⟩ ⟨by omega, by omega⟩)
  rw [hn, hd] at HM
  clear hn hd i1 i2 i3 i4
  have p0 : World.cell? ((w.alloc (.cells #[.int .i64 a, .int .i64 b, .int .i64 c, .int .i64 d] 122)).alloc (.cells #[.int .i64 0, .int .i64 0] 32)) ⟨w.heap.size, 0, none⟩ = some (.int .i64 a) := by simp [go_sem]
  have p1 : World.cell? ((w.alloc (.cells #[.int .i64 a, .int .i64 b, .int .i64 c, .int .i64 d] 122)).alloc (.cells #[.int .i64 0, .int .i64 0] 32)) ⟨w.heap.size, 1, none⟩ = some (.int .i64 b) := by simp [go_sem]
  have p2 : World.cell? ((w.alloc (.cells #[.int .i64 a, .int .i64 b, .int .i64 c, .int .i64 d] 122)).alloc (.cells #[.int .i64 0, .int .i64 0] 32)) ⟨w.heap.size, 2, none⟩ = some (.int .i64 c) := by simp [go_sem]
  have p3 : World.cell? ((w.alloc (.cells #[.int .i64 a, .int .i64 b, .int .i64 c, .int .i64 d] 122)).alloc (.cells #[.int .i64 0, .int .i64 0] 32)) ⟨w.heap.size, 3, none⟩ = some (.int .i64 d) := by simp [go_sem]
  have lp : w.heap.size < ((w.alloc (.cells #[.int .i64 a, .int .i64 b, .int .i64 c, .int .i64 d] 122)).alloc (.cells #[.int .i64 0, .int .i64 0] 32)).heap.size := by simp <;> omega
  have o0 : World.cell? ((w.alloc (.cells #[.int .i64 a, .int .i64 b, .int .i64 c, .int .i64 d] 122)).alloc (.cells #[.int .i64 0, .int .i64 0] 32)) ⟨w.heap.size + 1, 0, none⟩ = some (.int .i64 0) := by simp [go_sem]
  have fo0 : World.frozen? ((w.alloc (.cells #[.int .i64 a, .int .i64 b, .int .i64 c, .int .i64 d] 122)).alloc (.cells #[.int .i64 0, .int .i64 0] 32)) ⟨w.heap.size + 1, 0, none⟩ = false := by simp [go_sem]
  have o1 : World.cell? ((w.alloc (.cells #[.int .i64 a, .int .i64 b, .int .i64 c, .int .i64 d] 122)).alloc (.cells #[.int .i64 0, .int .i64 0] 32)) ⟨w.heap.size + 1, 1, none⟩ = some (.int .i64 0) := by simp [go_sem]
  have fo1 : World.frozen? ((w.alloc (.cells #[.int .i64 a, .int .i64 b, .int .i64 c, .int .i64 d] 122)).alloc (.cells #[.int .i64 0, .int .i64 0] 32)) ⟨w.heap.size + 1, 1, none⟩ = false := by simp [go_sem]
  have lo : w.heap.size + 1 < ((w.alloc (.cells #[.int .i64 a, .int .i64 b, .int .i64 c, .int .i64 d] 122)).alloc (.cells #[.int .i64 0, .int .i64 0] 32)).heap.size := by simp <;> omega
  have HB := Lib.hid (show Below w.heap.size w ((w.alloc (.cells #[.int .i64 a, .int .i64 b, .int .i64 c, .int .i64 d] 122)).alloc (.cells #[.int .i64 0, .int .i64 0] 32)) from (((Below.refl _ _).alloc (by simp <;> omega) _).alloc (by simp <;> omega) _))
  go_enter Try.func69, Try.ntmps69
  go_upto_region 1 with fail
  generalize (w.alloc (.cells #[.int .i64 a, .int .i64 b, .int .i64 c, .int .i64 d] 122)).alloc (.cells #[.int .i64 0, .int .i64 0] 32) = w1 at *
  go_wp2_with fail
  with_reducible refine (HM.out _).mono ?_
  rintro e_ w2 ⟨rfl, hb⟩
  replace HB := Lib.hid (on_below HB.out hb)
  replace p0 := keepc hb p0
  replace p1 := keepc hb p1
  replace p2 := keepc hb p2
  replace p3 := keepc hb p3
  replace o0 := keepc hb o0
  replace o1 := keepc hb o1
  replace fo0 := keepf hb lo fo0
  replace fo1 := keepf hb lo fo1
  replace lp := Nat.lt_of_lt_of_le lp hb.size
  replace lo := Nat.lt_of_lt_of_le lo hb.size
  clear hb
  go_wp2_with fail
  refine bodyPost_ret (v := .agg #[.int .i64 n, .int .i64 m]) (by simp [results, Try.results69, go_sem, o0, o1, lo]) rfl ⟨rfl, ?_⟩
  refine Below.alloc ?_ (by simp; omega) _
  repeat (refine Below.setCell ?_ (by first | exact Nat.le_refl _ | (simp; done) | (simp; omega) | omega) _)
  exact HB.out
set_option maxRecDepth 100000 in
set_option maxHeartbeats 2000000 in
theorem clipby_is (A : Option Addr) (C : Nat) (xs : List (Int × Int)) (lo hi a b c d e f : Int) (hlx : xs.length ≤ 9223372036854775806) (ra rb rc rd : Int) (rh : Bool) (hE : ClR xs lo hi a b c d e f ⟨ra, rb, rc, rd, rh⟩ 0) (w : World) (hl : SlS w A xs) :
    Calls Try.prog 81 #[.agg #[.int .i64 a, .int .i64 b, .int .i64 c, .int .i64 d, .int .i64 e, .int .i64 f], .agg #[.slice A xs.length C, .int .i64 lo, .int .i64 hi]] w fun e_ w' => e_ = .returned (.tuple #[.agg #[.int .i64 ra, .int .i64 rb, .int .i64 rc, .int .i64 rd], .bool rh]) ∧ Below w.heap.size w w' := by
  have HC := Lib.hid (fun W (h : SlS W A xs) => pclip_is A C xs lo hi a b c d e f hlx ⟨ra, rb, rc, rd, rh⟩ 0 hE W h)
  clear hE
  have HL := Lib.hid hl
  clear hl
  have p0 : World.cell? (((w.alloc (.cells #[.int .i64 a, .int .i64 b, .int .i64 c, .int .i64 d, .int .i64 e, .int .i64 f] 99)).alloc (.cells #[.slice A xs.length C, .int .i64 lo, .int .i64 hi] 46)).alloc (.cells #[.int .i64 0, .int .i64 0, .int .i64 0, .int .i64 0] 122)) ⟨w.heap.size, 0, none⟩ = some (.int .i64 a) := by simp [go_sem]
  have p1 : World.cell? (((w.alloc (.cells #[.int .i64 a, .int .i64 b, .int .i64 c, .int .i64 d, .int .i64 e, .int .i64 f] 99)).alloc (.cells #[.slice A xs.length C, .int .i64 lo, .int .i64 hi] 46)).alloc (.cells #[.int .i64 0, .int .i64 0, .int .i64 0, .int .i64 0] 122)) ⟨w.heap.size, 1, none⟩ = some (.int .i64 b) := by simp [go_sem]
  have p2 : World.cell? (((w.alloc (.cells #[.int .i64 a, .int .i64 b, .int .i64 c, .int .i64 d, .int .i64 e, .int .i64 f] 99)).alloc (.cells #[.slice A xs.length C, .int .i64 lo, .int .i64 hi] 46)).alloc (.cells #[.int .i64 0, .int .i64 0, .int .i64 0, .int .i64 0] 122)) ⟨w.heap.size, 2, none⟩ = some (.int .i64 c) := by simp [go_sem]
  have p3 : World.cell? (((w.alloc (.cells #[.int .i64 a, .int .i64 b, .int .i64 c, .int .i64 d, .int .i64 e, .int .i64 f] 99)).alloc (.cells #[.slice A xs.length C, .int .i64 lo, .int .i64 hi] 46)).alloc (.cells #[.int .i64 0, .int .i64 0, .int .i64 0, .int .i64 0] 122)) ⟨w.heap.size, 3, none⟩ = some (.int .i64 d) := by simp [go_sem]
  have p4 : World.cell? (((w.alloc (.cells #[.int .i64 a, .int .i64 b, .int .i64 c, .int .i64 d, .int .i64 e, .int .i64 f] 99)).alloc (.cells #[.slice A xs.length C, .int .i64 lo, .int .i64 hi] 46)).alloc (.cells #[.int .i64 0, .int .i64 0, .int .i64 0, .int .i64 0] 122)) ⟨w.heap.size, 4, none⟩ = some (.int .i64 e) := by simp [go_sem]
  have p5 : World.cell? (((w.alloc (.cells #[.int .i64 a, .int .i64 b, .int .i64 c, .int .i64 d, .int .i64 e, .int .i64 f] 99)).alloc (.cells #[.slice A xs.length C, .int .i64 lo, .int .i64 hi] 46)).alloc (.cells #[.int .i64 0, .int .i64 0, .int .i64 0, .int .i64 0] 122)) ⟨w.heap.size, 5, none⟩ = some (.int .i64 f) := by simp [go_sem]
  have lp : w.heap.size < (((w.alloc (.cells #[.int .i64 a, .int .i64 b, .int .i64 c, .int .i64 d, .int .i64 e, .int .i64 f] 99)).alloc (.cells #[.slice A xs.length C, .int .i64 lo, .int .i64 hi] 46)).alloc (.cells #[.int .i64 0, .int .i64 0, .int .i64 0, .int .i64 0] 122)).heap.size := by simp <;> omega
  have q0 : World.cell? (((w.alloc (.cells #[.int .i64 a, .int .i64 b, .int .i64 c, .int .i64 d, .int .i64 e, .int .i64 f] 99)).alloc (.cells #[.slice A xs.length C, .int .i64 lo, .int .i64 hi] 46)).alloc (.cells #[.int .i64 0, .int .i64 0, .int .i64 0, .int .i64 0] 122)) ⟨w.heap.size + 1, 0, none⟩ = some (.slice A xs.length C) := by simp [go_sem]
  have q1 : World.cell? (((w.alloc (.cells #[.int .i64 a, .int .i64 b, .int .i64 c, .int .i64 d, .int .i64 e, .int .i64 f] 99)).alloc (.cells #[.slice A xs.length C, .int .i64 lo, .int .i64 hi] 46)).alloc (.cells #[.int .i64 0, .int .i64 0, .int .i64 0, .int .i64 0] 122)) ⟨w.heap.size + 1, 1, none⟩ = some (.int .i64 lo) := by simp [go_sem]
  have q2 : World.cell? (((w.alloc (.cells #[.int .i64 a, .int .i64 b, .int .i64 c, .int .i64 d, .int .i64 e, .int .i64 f] 99)).alloc (.cells #[.slice A xs.length C, .int .i64 lo, .int .i64 hi] 46)).alloc (.cells #[.int .i64 0, .int .i64 0, .int .i64 0, .int .i64 0] 122)) ⟨w.heap.size + 1, 2, none⟩ = some (.int .i64 hi) := by simp [go_sem]
  have lq : w.heap.size + 1 < (((w.alloc (.cells #[.int .i64 a, .int .i64 b, .int .i64 c, .int .i64 d, .int .i64 e, .int .i64 f] 99)).alloc (.cells #[.slice A xs.length C, .int .i64 lo, .int .i64 hi] 46)).alloc (.cells #[.int .i64 0, .int .i64 0, .int .i64 0, .int .i64 0] 122)).heap.size := by simp <;> omega
  have u0 : World.cell? (((w.alloc (.cells #[.int .i64 a, .int .i64 b, .int .i64 c, .int .i64 d, .int .i64 e, .int .i64 f] 99)).alloc (.cells #[.slice A xs.length C, .int .i64 lo, .int .i64 hi] 46)).alloc (.cells #[.int .i64 0, .int .i64 0, .int .i64 0, .int .i64 0] 122)) ⟨w.heap.size + 1 + 1, 0, none⟩ = some (.int .i64 0) := by simp [go_sem]
  have fu0 : World.frozen? (((w.alloc (.cells #[.int .i64 a, .int .i64 b, .int .i64 c, .int .i64 d, .int .i64 e, .int .i64 f] 99)).alloc (.cells #[.slice A xs.length C, .int .i64 lo, .int .i64 hi] 46)).alloc (.cells #[.int .i64 0, .int .i64 0, .int .i64 0, .int .i64 0] 122)) ⟨w.heap.size + 1 + 1, 0, none⟩ = false := by simp [go_sem]
  have u1 : World.cell? (((w.alloc (.cells #[.int .i64 a, .int .i64 b, .int .i64 c, .int .i64 d, .int .i64 e, .int .i64 f] 99)).alloc (.cells #[.slice A xs.length C, .int .i64 lo, .int .i64 hi] 46)).alloc (.cells #[.int .i64 0, .int .i64 0, .int .i64 0, .int .i64 0] 122)) ⟨w.heap.size + 1 + 1, 1, none⟩ = some (.int .i64 0) := by simp [go_sem]
  have fu1 : World.frozen? (((w.alloc (.cells #[.int .i64 a, .int .i64 b, .int .i64 c, .int .i64 d, .int .i64 e, .int .i64 f] 99)).alloc (.cells #[.slice A xs.length C, .int .i64 lo, .int .i64 hi] 46)).alloc (.cells #[.int .i64 0, .int .i64 0, .int .i64 0, .int .i64 0] 122)) ⟨w.heap.size + 1 + 1, 1, none⟩ = false := by simp [go_sem]
  have u2 : World.cell? (((w.alloc (.cells #[.int .i64 a, .int .i64 b, .int .i64 c, .int .i64 d, .int .i64 e, .int .i64 f] 99)).alloc (.cells #[.slice A xs.length C, .int .i64 lo, .int .i64 hi] 46)).alloc (.cells #[.int .i64 0, .int .i64 0, .int .i64 0, .int .i64 0] 122)) ⟨w.heap.size + 1 + 1, 2, none⟩ = some (.int .i64 0) := by simp [go_sem]
  have fu2 : World.frozen? (((w.alloc (.cells #[.int .i64 a, .int .i64 b, .int .i64 c, .int .i64 d, .int .i64 e, .int .i64 f] 99)).alloc (.cells #[.slice A xs.length C, .int .i64 lo, .int .i64 hi] 46)).alloc (.cells #[.int .i64 0, .int .i64 0, .int .i64 0, .int .i64 0] 122)) ⟨w.heap.size + 1 + 1, 2, none⟩ = false := by simp [go_sem]
  have u3 : World.cell? (((w.alloc (.cells #[.int .i64 a, .int .i64 b, .int .i64 c, .int .i64 d, .int .i64 e, .int .i64 f] 99)).alloc (.cells #[.slice A xs.length C, .int .i64 lo, .int .i64 hi] 46)).alloc (.cells #[.int .i64 0, .int .i64 0, .int .i64 0, .int .i64 0] 122)) ⟨w.heap.size + 1 + 1, 3, none⟩ = some (.int .i64 0) := by simp [go_sem]
  have fu3 : World.frozen? (((w.alloc (.cells #[.int .i64 a, .int .i64 b, .int .i64 c, .int .i64 d, .int .i64 e, .int .i64 f] 99)).alloc (.cells #[.slice A xs.length C, .int .i64 lo, .int .i64 hi] 46)).alloc (.cells #[.int .i64 0, .int .i64 0, .int .i64 0, .int .i64 0] 122)) ⟨w.heap.size + 1 + 1, 3, none⟩ = false := by simp [go_sem]
  have lu : w.heap.size + 1 + 1 < (((w.alloc (.cells #[.int .i64 a, .int .i64 b, .int .i64 c, .int .i64 d, .int .i64 e, .int .i64 f] 99)).alloc (.cells #[.slice A xs.length C, .int .i64 lo, .int .i64 hi] 46)).alloc (.cells #[.int .i64 0, .int .i64 0, .int .i64 0, .int .i64 0] 122)).heap.size := by simp <;> omega
  have HB := Lib.hid (show Below w.heap.size w (((w.alloc (.cells #[.int .i64 a, .int .i64 b, .int .i64 c, .int .i64 d, .int .i64 e, .int .i64 f] 99)).alloc (.cells #[.slice A xs.length C, .int .i64 lo, .int .i64 hi] 46)).alloc (.cells #[.int .i64 0, .int .i64 0, .int .i64 0, .int .i64 0] 122)) from ((((Below.refl _ _).alloc (by simp <;> omega) _).alloc (by simp <;> omega) _).alloc (by simp <;> omega) _))
  go_enter Try.func81, Try.ntmps81
  go_upto_region 1 with fail
  generalize ((w.alloc (.cells #[.int .i64 a, .int .i64 b, .int .i64 c, .int .i64 d, .int .i64 e, .int .i64 f] 99)).alloc (.cells #[.slice A xs.length C, .int .i64 lo, .int .i64 hi] 46)).alloc (.cells #[.int .i64 0, .int .i64 0, .int .i64 0, .int .i64 0] 122) = w1 at *
  replace HL := Lib.hid (HL.out.below HB.out)
  go_wp2_with fail
  with_reducible refine (HC.out _ HL.out).mono ?_
  rintro e_ w2 ⟨rfl, hb⟩
  replace HB := Lib.hid (on_below HB.out hb)
  replace HL := Lib.hid (HL.out.below hb)
  replace p0 := keepc hb p0
  replace p1 := keepc hb p1
  replace p2 := keepc hb p2
  replace p3 := keepc hb p3
  replace p4 := keepc hb p4
  replace p5 := keepc hb p5
  replace q0 := keepc hb q0
  replace q1 := keepc hb q1
  replace q2 := keepc hb q2
  replace u0 := keepc hb u0
  replace u1 := keepc hb u1
  replace u2 := keepc hb u2
  replace u3 := keepc hb u3
  replace fu0 := keepf hb lu fu0
  replace fu1 := keepf hb lu fu1
  replace fu2 := keepf hb lu fu2
  replace fu3 := keepf hb lu fu3
  replace lp := Nat.lt_of_lt_of_le lp hb.size
  replace lq := Nat.lt_of_lt_of_le lq hb.size
  replace lu := Nat.lt_of_lt_of_le lu hb.size
  clear hb
  go_wp2_with fail
  have lv := Nat.lt_succ_of_lt lu
  refine bodyPost_ret (v := .tuple #[.agg #[.int .i64 ra, .int .i64 rb, .int .i64 rc, .int .i64 rd], .bool rh]) (by simp [results, Try.results81, go_sem, u0, u1, u2, u3, lu, lv]) rfl ⟨rfl, ?_⟩
  repeat (first | (with_reducible exact HB.out) | (refine Below.setCell ?_ (by first | exact Nat.le_refl _ | (simp; done) | (simp; omega) | omega) _) | (refine Below.alloc ?_ (by first | exact Nat.le_refl _ | (simp; done) | (simp; omega) | omega) _) | (refine Below.drew ?_) | (refine below_drewN' ?_ _))
set_option maxRecDepth 100000 in
set_option maxHeartbeats 2000000 in
theorem tg_0 (a b c d : Int) (hv : vv a b c = false) (w : World) :
    Calls Try.prog 70 #[.agg #[.int .i64 a, .int .i64 b, .int .i64 c, .int .i64 d]] w fun e_ w' => e_ = .returned (.bool true) ∧ Below w.heap.size w w' := by
  have H1 := Lib.hid (fun W => vvalid_is a b c false hv W)
  clear hv
  have p0 : World.cell? (w.alloc (.cells #[.int .i64 a, .int .i64 b, .int .i64 c, .int .i64 d] 41)) ⟨w.heap.size, 0, none⟩ = some (.int .i64 a) := by simp [go_sem]
  have p1 : World.cell? (w.alloc (.cells #[.int .i64 a, .int .i64 b, .int .i64 c, .int .i64 d] 41)) ⟨w.heap.size, 1, none⟩ = some (.int .i64 b) := by simp [go_sem]
  have p2 : World.cell? (w.alloc (.cells #[.int .i64 a, .int .i64 b, .int .i64 c, .int .i64 d] 41)) ⟨w.heap.size, 2, none⟩ = some (.int .i64 c) := by simp [go_sem]
  have p3 : World.cell? (w.alloc (.cells #[.int .i64 a, .int .i64 b, .int .i64 c, .int .i64 d] 41)) ⟨w.heap.size, 3, none⟩ = some (.int .i64 d) := by simp [go_sem]
  have lp : w.heap.size < (w.alloc (.cells #[.int .i64 a, .int .i64 b, .int .i64 c, .int .i64 d] 41)).heap.size := by simp <;> omega
  have HB := Lib.hid (show Below w.heap.size w (w.alloc (.cells #[.int .i64 a, .int .i64 b, .int .i64 c, .int .i64 d] 41)) from ((Below.refl _ _).alloc (by simp <;> omega) _))
  go_enter Try.func70, Try.ntmps70
  go_upto_region 1 with fail
  generalize w.alloc (.cells #[.int .i64 a, .int .i64 b, .int .i64 c, .int .i64 d] 41) = w1 at *
  go_wp2_with fail
  with_reducible refine (H1.out _).mono ?_
  rintro e_ w2 ⟨rfl, hb⟩
  replace HB := Lib.hid (on_below HB.out hb)
  replace p0 := keepc hb p0
  replace p1 := keepc hb p1
  replace p2 := keepc hb p2
  replace p3 := keepc hb p3
  replace lp := Nat.lt_of_lt_of_le lp hb.size
  clear hb
  go_wp2_with fail
  go_ret
  exact ⟨rfl, HB.out⟩
set_option maxRecDepth 100000 in
set_option maxHeartbeats 2000000 in
theorem tg_1 (a b c d : Int) (hv : vv a b c = true) (r : Bool) (hr : (decide (d < 1) || decide (100 < d)) = r) (w : World) :
    Calls Try.prog 70 #[.agg #[.int .i64 a, .int .i64 b, .int .i64 c, .int .i64 d]] w fun e_ w' => e_ = .returned (.bool r) ∧ Below w.heap.size w w' := by
  have HR := Lib.hid hr
  clear hr
  have H1 := Lib.hid (fun W => vvalid_is a b c true hv W)
  clear hv
  have p0 : World.cell? (w.alloc (.cells #[.int .i64 a, .int .i64 b, .int .i64 c, .int .i64 d] 41)) ⟨w.heap.size, 0, none⟩ = some (.int .i64 a) := by simp [go_sem]
  have p1 : World.cell? (w.alloc (.cells #[.int .i64 a, .int .i64 b, .int .i64 c, .int .i64 d] 41)) ⟨w.heap.size, 1, none⟩ = some (.int .i64 b) := by simp [go_sem]
  have p2 : World.cell? (w.alloc (.cells #[.int .i64 a, .int .i64 b, .int .i64 c, .int .i64 d] 41)) ⟨w.heap.size, 2, none⟩ = some (.int .i64 c) := by simp [go_sem]
  have p3 : World.cell? (w.alloc (.cells #[.int .i64 a, .int .i64 b, .int .i64 c, .int .i64 d] 41)) ⟨w.heap.size, 3, none⟩ = some (.int .i64 d) := by simp [go_sem]
  have lp : w.heap.size < (w.alloc (.cells #[.int .i64 a, .int .i64 b, .int .i64 c, .int .i64 d] 41)).heap.size := by simp <;> omega
  have HB := Lib.hid (show Below w.heap.size w (w.alloc (.cells #[.int .i64 a, .int .i64 b, .int .i64 c, .int .i64 d] 41)) from ((Below.refl _ _).alloc (by simp <;> omega) _))
  go_enter Try.func70, Try.ntmps70
  go_upto_region 1 with fail
  generalize w.alloc (.cells #[.int .i64 a, .int .i64 b, .int .i64 c, .int .i64 d] 41) = w1 at *
  go_wp2_with fail
  with_reducible refine (H1.out _).mono ?_
  rintro e_ w2 ⟨rfl, hb⟩
  replace HB := Lib.hid (on_below HB.out hb)
  replace p0 := keepc hb p0
  replace p1 := keepc hb p1
  replace p2 := keepc hb p2
  replace p3 := keepc hb p3
  replace lp := Nat.lt_of_lt_of_le lp hb.size
  clear hb
  go_wp2_with fail
  all_goals go_ret
  all_goals exact ⟨by have hr := HR.out; simp_all, HB.out⟩
theorem tg_is (q : Q4) (r : Bool) (hr : tgb q = r) (w : World) :
    Calls Try.prog 70 #[.agg #[.int .i64 q.a, .int .i64 q.b, .int .i64 q.c, .int .i64 q.d]] w fun e_ w' => e_ = .returned (.bool r) ∧ Below w.heap.size w w' := by
  unfold tgb at hr
  cases hv : vv q.a q.b q.c
  · rw [hv] at hr
    obtain rfl : true = r := hr
    exact tg_0 _ _ _ _ hv w
  · rw [hv] at hr
    exact tg_1 _ _ _ _ hv r hr w
set_option maxRecDepth 100000 in
set_option maxHeartbeats 2000000 in
theorem ateye_is (a b c d x y z : Int) (g : Nat) (r : Bool) (hr : decide (a = x ∧ b = y ∧ c = z) = r) (w : World) (g0 : w.cell? ⟨g, 0, none⟩ = some (.int .i64 x)) (g1 : w.cell? ⟨g, 1, none⟩ = some (.int .i64 y)) (g2 : w.cell? ⟨g, 2, none⟩ = some (.int .i64 z)) :
    Calls Try.prog 78 #[.agg #[.int .i64 a, .int .i64 b, .int .i64 c, .int .i64 d], .pointer (some ⟨g, 0, none⟩)] w fun e_ w' => e_ = .returned (.bool r) ∧ Below w.heap.size w w' := by
  have he : ∀ W, (binOp .eql 27 (.agg #[.int .i64 a, .int .i64 b, .int .i64 c]) (.agg #[.int .i64 x, .int .i64 y, .int .i64 z])).run Try.prog W = .ok (.bool r) W := fun W => vec_eq hr W
  clear hr
  have p0 : World.cell? (w.alloc (.cells #[.int .i64 a, .int .i64 b, .int .i64 c, .int .i64 d] 41)) ⟨w.heap.size, 0, none⟩ = some (.int .i64 a) := by simp [go_sem]
  have p1 : World.cell? (w.alloc (.cells #[.int .i64 a, .int .i64 b, .int .i64 c, .int .i64 d] 41)) ⟨w.heap.size, 1, none⟩ = some (.int .i64 b) := by simp [go_sem]
  have p2 : World.cell? (w.alloc (.cells #[.int .i64 a, .int .i64 b, .int .i64 c, .int .i64 d] 41)) ⟨w.heap.size, 2, none⟩ = some (.int .i64 c) := by simp [go_sem]
  have p3 : World.cell? (w.alloc (.cells #[.int .i64 a, .int .i64 b, .int .i64 c, .int .i64 d] 41)) ⟨w.heap.size, 3, none⟩ = some (.int .i64 d) := by simp [go_sem]
  have lp : w.heap.size < (w.alloc (.cells #[.int .i64 a, .int .i64 b, .int .i64 c, .int .i64 d] 41)).heap.size := by simp <;> omega
  have HB := Lib.hid (show Below w.heap.size w (w.alloc (.cells #[.int .i64 a, .int .i64 b, .int .i64 c, .int .i64 d] 41)) from ((Below.refl _ _).alloc (by simp <;> omega) _))
  go_enter Try.func78, Try.ntmps78
  go_upto_region 1 with fail
  generalize w.alloc (.cells #[.int .i64 a, .int .i64 b, .int .i64 c, .int .i64 d] 41) = w1 at *
  replace g0 := keepc HB.out g0
  replace g1 := keepc HB.out g1
  replace g2 := keepc HB.out g2
  go_wp2_with fail
  go_ret
  exact ⟨rfl, HB.out⟩
set_option maxRecDepth 100000 in
set_option maxHeartbeats 2000000 in
theorem bd_is (A : Option Addr) (C : Nat) (xs : List (Int × Int)) (lo hi : Int) (hlx : xs.length ≤ 9223372036854775806) (r : Bool) (hr : r = false ↔ Bok xs lo hi) (w : World) (hl : SlS w A xs) :
    Calls Try.prog 79 #[.agg #[.slice A xs.length C, .int .i64 lo, .int .i64 hi]] w fun e_ w' => e_ = .returned (.bool r) ∧ Below w.heap.size w w' := by
  have HC := Lib.hid (fun W (h : SlS W A xs) => pvalid_is A C xs lo hi hlx (!r) (by rw [← hr]; cases r <;> simp) W h)
  clear hr
  have HL := Lib.hid hl
  clear hl
  have p0 : World.cell? (w.alloc (.cells #[.slice A xs.length C, .int .i64 lo, .int .i64 hi] 46)) ⟨w.heap.size, 0, none⟩ = some (.slice A xs.length C) := by simp [go_sem]
  have p1 : World.cell? (w.alloc (.cells #[.slice A xs.length C, .int .i64 lo, .int .i64 hi] 46)) ⟨w.heap.size, 1, none⟩ = some (.int .i64 lo) := by simp [go_sem]
  have p2 : World.cell? (w.alloc (.cells #[.slice A xs.length C, .int .i64 lo, .int .i64 hi] 46)) ⟨w.heap.size, 2, none⟩ = some (.int .i64 hi) := by simp [go_sem]
  have lp : w.heap.size < (w.alloc (.cells #[.slice A xs.length C, .int .i64 lo, .int .i64 hi] 46)).heap.size := by simp <;> omega
  have HB := Lib.hid (show Below w.heap.size w (w.alloc (.cells #[.slice A xs.length C, .int .i64 lo, .int .i64 hi] 46)) from ((Below.refl _ _).alloc (by simp <;> omega) _))
  go_enter Try.func79, Try.ntmps79
  go_upto_region 1 with fail
  generalize w.alloc (.cells #[.slice A xs.length C, .int .i64 lo, .int .i64 hi] 46) = w1 at *
  replace HL := Lib.hid (HL.out.below HB.out)
  go_wp2_with fail
  with_reducible refine (HC.out _ HL.out).mono ?_
  rintro e_ w2 ⟨rfl, hb⟩
  replace HB := Lib.hid (on_below HB.out hb)
  replace HL := Lib.hid (HL.out.below hb)
  replace p0 := keepc hb p0
  replace p1 := keepc hb p1
  replace p2 := keepc hb p2
  replace lp := Nat.lt_of_lt_of_le lp hb.size
  clear hb
  go_wp2_with fail
  go_ret
  exact ⟨by cases r <;> rfl, HB.out⟩
end Go.Proofs.Ytiffgcipdamngaa

namespace Go.Proofs.Ytiffgcipdamngaa
open Go.RowKit Go.Sort
open Go.RowKit (Below)
set_option linter.unusedVariables false
set_option linter.unusedSimpArgs false

theorem least_hit {n : Nat} {p : Nat → Bool} (h : ∃ k, k < n ∧ p k = true) : ∃ k, k < n ∧ p k = true ∧ ∀ j, j < k → p j = false := by
  induction n with
  | zero => obtain ⟨k, hk, _⟩ := h; exact absurd hk (Nat.not_lt_zero k)
  | succ n ih =>
    by_cases hn : ∃ k, k < n ∧ p k = true
    · obtain ⟨k, hk, h1, h2⟩ := ih hn
      exact ⟨k, Nat.lt_succ_of_lt hk, h1, h2⟩
    · obtain ⟨k, hk, h1⟩ := h
      have hkn : k = n := by
        rcases Nat.lt_succ_iff_lt_or_eq.1 hk with h | h
        · exact absurd ⟨k, h, h1⟩ hn
        · exact h
      subst hkn
      exact ⟨k, Nat.lt_succ_self k, h1, fun j hj => by cases hp : p j; rfl; exact absurd ⟨j, hj, hp⟩ hn⟩
set_option maxRecDepth 100000 in
set_option maxHeartbeats 2000000 in
theorem tidx_is (K : Nat) (cb : Array Value) (eg : ∀ args w, (callFunc K args).run Try.prog w = .ok (.enter K args) w) (A : Option Addr) (C : Nat) (T : List Q4) (p : Nat → Bool) (hlen : T.length ≤ 9223372036854775807) (w : World) (hl : S4 w A T)
    (hc : ∀ k, k < T.length → ∀ W, Below w.heap.size w W → Calls Try.prog K (#[.agg #[.int .i64 (gd4 T k).a, .int .i64 (gd4 T k).b, .int .i64 (gd4 T k).c, .int .i64 (gd4 T k).d]] ++ cb) W fun e w' => e = .returned (.bool (p k)) ∧ Below W.heap.size W w')
    (r : Int) (hr : (∃ k, k < T.length ∧ p k = true ∧ (∀ j, j < k → p j = false) ∧ (k : Int) = r) ∨ ((∀ k, k < T.length → p k = false) ∧ -1 = r)) :
    Calls Try.prog 65 #[.slice A T.length C, .func (.func K) #[] cb] w fun e_ w' => e_ = .returned (.int .i64 r) ∧ Below w.heap.size w w' := by
  have HL := Lib.hid hl
  have HC := Lib.hid hc
  have HR := Lib.hid hr
  clear hl hc hr
  go_enter Try.func65, Try.ntmps65
  go_wp2_with fail
  go_loopw [5, 8] (fun _ i wr => ∃ k : Nat, k ≤ T.length ∧ i = .int .i64 k ∧ Hid (∀ j, j < k → p j = false) ∧ Below w.heap.size w wr) (fun _ i _ => T.length - (intOf i).toNat)
  case atStart => exact ⟨0, Nat.zero_le _, rfl, fun j hj => absurd hj (Nat.not_lt_zero j), Below.refl _ _⟩
  case round =>
    obtain ⟨k, hk, rfl, HK, hW⟩ := hrel
    have HB := Lib.hid hW
    by_cases hlt : k < T.length
    · obtain ⟨b0, o0, rfl, e0, e1, e2, e3⟩ := HL.out.below hW k hlt
      have HCC := Lib.hid (fun W (h : Below wr.heap.size wr W) => HC.out k hlt W (on_below hW h))
      clear hW
      obtain ⟨q, hq⟩ : ∃ q, p k = q := ⟨_, rfl⟩
      rw [hq] at HCC
      have HQ := Lib.hid hq
      clear hq
      generalize gd4 T k = u at *
      have w1_ : IntKind.i64.wrap ((k : Int) + 1) = (k : Int) + 1 := IntWalk.i64_in _ ⟨by omega, by omega⟩
      have w2_ : wrap64 ((k : Int) + 1) = (k : Int) + 1 := IntWalk.wrap64_in _ ⟨by omega, by omega⟩
      cases q
      · go_wp2_with (go_at_fn K; with_reducible refine (HCC.out _ (Below.refl _ _)).mono ?_; rintro e' w2 ⟨rfl, hb⟩)
        go_roundw
        case rel => exact ⟨k + 1, hlt, int_of (by omega), (fun j hj => by by_cases e : j = k; (subst e; exact HQ.out); exact HK.out j (by omega)), on_below HB.out hb⟩
        case measure => simp [intOf]; omega
      · have hr : (k : Int) = r := by
          rcases HR.out with ⟨j, hj, h1, h2, h3⟩ | ⟨h1, h2⟩
          · rcases Nat.lt_trichotomy j k with h | h | h
            · have := HK.out j h; rw [this] at h1; cases h1
            · rw [← h]; exact h3
            · have := h2 k h; rw [HQ.out] at this; cases this
          · have := h1 k hlt; rw [HQ.out] at this; cases this
        subst hr
        go_wp2_with (go_at_fn K; with_reducible refine (HCC.out _ (Below.refl _ _)).mono ?_; rintro e' w2 ⟨rfl, hb⟩)
        go_ret
        exact ⟨rfl, on_below HB.out hb⟩
    · have hr : -1 = r := by
        rcases HR.out with ⟨j, hj, h1, h2, h3⟩ | ⟨h1, h2⟩
        · have := HK.out j (by omega); rw [this] at h1; cases h1
        · exact h2
      subst hr
      go_wp2_with fail
      go_ret
      exact ⟨rfl, hW⟩
set_option maxRecDepth 100000 in
theorem thas_is (K : Nat) (cb : Array Value) (eg : ∀ args w, (callFunc K args).run Try.prog w = .ok (.enter K args) w) (A : Option Addr) (C : Nat) (T : List Q4) (p : Nat → Bool) (hlen : T.length ≤ 9223372036854775807) (w : World) (hl : S4 w A T)
    (hc : ∀ k, k < T.length → ∀ W, Below w.heap.size w W → Calls Try.prog K (#[.agg #[.int .i64 (gd4 T k).a, .int .i64 (gd4 T k).b, .int .i64 (gd4 T k).c, .int .i64 (gd4 T k).d]] ++ cb) W fun e w' => e = .returned (.bool (p k)) ∧ Below W.heap.size W w')
    (r : Bool) (hr : r = true ↔ ∃ k, k < T.length ∧ p k = true) :
    Calls Try.prog 47 #[.slice A T.length C, .func (.func K) #[] cb] w fun e_ w' => e_ = .returned (.bool r) ∧ Below w.heap.size w w' := by
  obtain ⟨s, hs, hrs⟩ : ∃ s : Int, ((∃ k, k < T.length ∧ p k = true ∧ (∀ j, j < k → p j = false) ∧ (k : Int) = s) ∨ ((∀ k, k < T.length → p k = false) ∧ -1 = s)) ∧ decide (0 ≤ s) = r := by
    by_cases h : ∃ k, k < T.length ∧ p k = true
    · obtain ⟨k, hk, hp, hm⟩ := least_hit h
      exact ⟨k, Or.inl ⟨k, hk, hp, hm, rfl⟩, by rw [hr.2 h]; simp⟩
    · refine ⟨-1, Or.inr ⟨fun k hk => by cases hp : p k; rfl; exact absurd ⟨k, hk, hp⟩ h, rfl⟩, ?_⟩
      cases r
      · rfl
      · exact absurd (hr.1 rfl) h
  have HI := Lib.hid (tidx_is K cb eg A C T p hlen w hl hc s hs)
  clear hl hc hs hr
  go_enter Try.func47, Try.ntmps47
  go_wp2_with fail
  refine HI.out.mono ?_
  rintro e_ w1 ⟨rfl, hb⟩
  subst hrs
  go_wp2_with fail
  all_goals go_ret
  all_goals exact ⟨by simp_all, hb⟩
set_option maxRecDepth 100000 in
set_option maxHeartbeats 2000000 in
theorem bidx_is (K : Nat) (cb : Array Value) (eg : ∀ args w, (callFunc K args).run Try.prog w = .ok (.enter K args) w) (A : Option Addr) (C : Nat) (T : List Bv) (p : Nat → Bool) (hlen : T.length ≤ 9223372036854775807) (w : World) (hl : BdS w A T)
    (hc : ∀ k, k < T.length → ∀ W, Below w.heap.size w W → Calls Try.prog K (#[.agg #[.slice (gdB T k).A (gdB T k).xs.length (gdB T k).C, .int .i64 (gdB T k).lo, .int .i64 (gdB T k).hi]] ++ cb) W fun e w' => e = .returned (.bool (p k)) ∧ Below W.heap.size W w')
    (r : Int) (hr : (∃ k, k < T.length ∧ p k = true ∧ (∀ j, j < k → p j = false) ∧ (k : Int) = r) ∨ ((∀ k, k < T.length → p k = false) ∧ -1 = r)) :
    Calls Try.prog 64 #[.slice A T.length C, .func (.func K) #[] cb] w fun e_ w' => e_ = .returned (.int .i64 r) ∧ Below w.heap.size w w' := by
  have HL := Lib.hid hl
  have HC := Lib.hid hc
  have HR := Lib.hid hr
  clear hl hc hr
  go_enter Try.func64, Try.ntmps64
  go_wp2_with fail
  go_loopw [5, 8] (fun _ i wr => ∃ k : Nat, k ≤ T.length ∧ i = .int .i64 k ∧ Hid (∀ j, j < k → p j = false) ∧ Below w.heap.size w wr) (fun _ i _ => T.length - (intOf i).toNat)
  case atStart => exact ⟨0, Nat.zero_le _, rfl, fun j hj => absurd hj (Nat.not_lt_zero j), Below.refl _ _⟩
  case round =>
    obtain ⟨k, hk, rfl, HK, hW⟩ := hrel
    have HB := Lib.hid hW
    by_cases hlt : k < T.length
    · obtain ⟨b0, o0, rfl, e0, e1, e2, hsl⟩ := HL.out.below hW k hlt
      have HCC := Lib.hid (fun W (h : Below wr.heap.size wr W) => HC.out k hlt W (on_below hW h))
      clear hW
      obtain ⟨q, hq⟩ : ∃ q, p k = q := ⟨_, rfl⟩
      rw [hq] at HCC
      have HQ := Lib.hid hq
      clear hq
      generalize gdB T k = u at *
      have w1_ : IntKind.i64.wrap ((k : Int) + 1) = (k : Int) + 1 := IntWalk.i64_in _ ⟨by omega, by omega⟩
      have w2_ : wrap64 ((k : Int) + 1) = (k : Int) + 1 := IntWalk.wrap64_in _ ⟨by omega, by omega⟩
      cases q
      · go_wp2_with (go_at_fn K; with_reducible refine (HCC.out _ (Below.refl _ _)).mono ?_; rintro e' w2 ⟨rfl, hb⟩)
        go_roundw
        case rel => exact ⟨k + 1, hlt, int_of (by omega), (fun j hj => by by_cases e : j = k; (subst e; exact HQ.out); exact HK.out j (by omega)), on_below HB.out hb⟩
        case measure => simp [intOf]; omega
      · have hr : (k : Int) = r := by
          rcases HR.out with ⟨j, hj, h1, h2, h3⟩ | ⟨h1, h2⟩
          · rcases Nat.lt_trichotomy j k with h | h | h
            · have := HK.out j h; rw [this] at h1; cases h1
            · rw [← h]; exact h3
            · have := h2 k h; rw [HQ.out] at this; cases this
          · have := h1 k hlt; rw [HQ.out] at this; cases this
        subst hr
        go_wp2_with (go_at_fn K; with_reducible refine (HCC.out _ (Below.refl _ _)).mono ?_; rintro e' w2 ⟨rfl, hb⟩)
        go_ret
        exact ⟨rfl, on_below HB.out hb⟩
    · have hr : -1 = r := by
        rcases HR.out with ⟨j, hj, h1, h2, h3⟩ | ⟨h1, h2⟩
        · have := HK.out j (by omega); rw [this] at h1; cases h1
        · exact h2
      subst hr
      go_wp2_with fail
      go_ret
      exact ⟨rfl, hW⟩
set_option maxRecDepth 100000 in
theorem bhas_is (K : Nat) (cb : Array Value) (eg : ∀ args w, (callFunc K args).run Try.prog w = .ok (.enter K args) w) (A : Option Addr) (C : Nat) (T : List Bv) (p : Nat → Bool) (hlen : T.length ≤ 9223372036854775807) (w : World) (hl : BdS w A T)
    (hc : ∀ k, k < T.length → ∀ W, Below w.heap.size w W → Calls Try.prog K (#[.agg #[.slice (gdB T k).A (gdB T k).xs.length (gdB T k).C, .int .i64 (gdB T k).lo, .int .i64 (gdB T k).hi]] ++ cb) W fun e w' => e = .returned (.bool (p k)) ∧ Below W.heap.size W w')
    (r : Bool) (hr : r = true ↔ ∃ k, k < T.length ∧ p k = true) :
    Calls Try.prog 42 #[.slice A T.length C, .func (.func K) #[] cb] w fun e_ w' => e_ = .returned (.bool r) ∧ Below w.heap.size w w' := by
  obtain ⟨s, hs, hrs⟩ : ∃ s : Int, ((∃ k, k < T.length ∧ p k = true ∧ (∀ j, j < k → p j = false) ∧ (k : Int) = s) ∨ ((∀ k, k < T.length → p k = false) ∧ -1 = s)) ∧ decide (0 ≤ s) = r := by
    by_cases h : ∃ k, k < T.length ∧ p k = true
    · obtain ⟨k, hk, hp, hm⟩ := least_hit h
      exact ⟨k, Or.inl ⟨k, hk, hp, hm, rfl⟩, by rw [hr.2 h]; simp⟩
    · refine ⟨-1, Or.inr ⟨fun k hk => by cases hp : p k; rfl; exact absurd ⟨k, hk, hp⟩ h, rfl⟩, ?_⟩
      cases r
      · rfl
      · exact absurd (hr.1 rfl) h
  have HI := Lib.hid (bidx_is K cb eg A C T p hlen w hl hc s hs)
  clear hl hc hs hr
  go_enter Try.func42, Try.ntmps42
  go_wp2_with fail
  refine HI.out.mono ?_
  rintro e_ w1 ⟨rfl, hb⟩
  subst hrs
  go_wp2_with fail
  all_goals go_ret
  all_goals exact ⟨by simp_all, hb⟩
end Go.Proofs.Ytiffgcipdamngaa

namespace Go.Proofs.Ytiffgcipdamngaa
open Go.RowKit Go.Sort
open Go.RowKit (Below)
set_option linter.unusedVariables false
set_option linter.unusedSimpArgs false
attribute [local go_sem] Oper.semAt_some

theorem tg_enter (args : Array Value) (W : World) : (callFunc 70 args).run Try.prog W = .ok (.enter 70 args) W := by simp [go_sem]
theorem eye_enter (args : Array Value) (W : World) : (callFunc 78 args).run Try.prog W = .ok (.enter 78 args) W := by simp [go_sem]
theorem bd_enter (args : Array Value) (W : World) : (callFunc 79 args).run Try.prog W = .ok (.enter 79 args) W := by simp [go_sem]
theorem not_true {r : Bool} (h : ¬ r = true) : r = false := by cases r <;> simp_all
set_option maxRecDepth 100000 in
set_option maxHeartbeats 2000000 in
theorem atg_0 (A : Option Addr) (C : Nat) (T : List Q4) (h0 : T.length = 0) (w : World) :
    Calls Try.prog 50 #[.slice A T.length C] w fun e_ w' => e_ = .returned (.bool false) ∧ w = w' := by
  rw [h0]
  have hmf : ∀ (fn : Fn) (first cap : Array Value) (w : World), (Instr.makeFunc fn first cap).run Try.prog w = .ok (.func fn first cap) w := fun _ _ _ _ => rfl
  go_enter Try.func50, Try.ntmps50
  go_wp2_with fail
  go_ret
  exact ⟨rfl, rfl⟩
set_option maxRecDepth 100000 in
set_option maxHeartbeats 2000000 in
theorem atg_1 (A : Option Addr) (C : Nat) (T : List Q4) (hlen : T.length ≤ 9223372036854775807) (h0 : 0 < T.length) (r : Bool) (hr : r = true ↔ Tok T) (w : World) (hl : S4 w A T) :
    Calls Try.prog 50 #[.slice A T.length C] w fun e_ w' => e_ = .returned (.bool r) ∧ Below w.heap.size w w' := by
  have hmf : ∀ (fn : Fn) (first cap : Array Value) (w : World), (Instr.makeFunc fn first cap).run Try.prog w = .ok (.func fn first cap) w := fun _ _ _ _ => rfl
  have HC := Lib.hid (fun W (h : S4 W A T) => thas_is 70 #[] tg_enter A C T (fun k => tgb (gd4 T k)) hlen W h (fun k hk W1 _ => by simpa using tg_is (gd4 T k) _ rfl W1) (!r) (by
    cases r
    · simp only [Bool.not_false, true_iff]
      apply Classical.byContradiction
      intro hn
      have : Tok T := ⟨h0, fun k hk => not_true (fun h => hn ⟨k, hk, h⟩)⟩
      exact absurd (hr.2 this) (by decide)
    · have := hr.1 rfl
      simp only [Bool.not_true, Bool.false_eq_true, false_iff]
      rintro ⟨k, hk, h⟩
      rw [this.2 k hk] at h
      cases h))
  clear hr
  have HL := Lib.hid hl
  clear hl
  have z3 : ¬ T = [] := by intro e; rw [e] at h0; exact absurd h0 (Nat.not_lt_zero _)
  have z4 : (0 : Int) < T.length := by omega
  go_enter Try.func50, Try.ntmps50
  go_wp2_with fail
  refine (HC.out _ HL.out).mono ?_
  rintro e_ w1 ⟨rfl, hb⟩
  go_wp2_with fail
  go_ret
  exact ⟨by cases r <;> rfl, hb⟩
theorem atg_is (A : Option Addr) (C : Nat) (T : List Q4) (hlen : T.length ≤ 9223372036854775807) (r : Bool) (hr : r = true ↔ Tok T) (w : World) (hl : S4 w A T) :
    Calls Try.prog 50 #[.slice A T.length C] w fun e_ w' => e_ = .returned (.bool r) ∧ Below w.heap.size w w' := by
  by_cases h0 : T.length = 0
  · obtain rfl : false = r := false_of fun e => by have := (hr.1 e).1; omega
    refine (atg_0 A C T h0 w).mono ?_
    rintro e w' ⟨rfl, rfl⟩
    exact ⟨rfl, Below.refl _ _⟩
  · exact atg_1 A C T hlen (by omega) r hr w hl
set_option maxRecDepth 100000 in
set_option maxHeartbeats 2000000 in
theorem sut_0 (ex ey ez : Int) (A : Option Addr) (C : Nat) (T : List Q4) (hv : vv ex ey ez = false) (w : World) :
    Calls Try.prog 66 #[.agg #[.int .i64 ex, .int .i64 ey, .int .i64 ez], .slice A T.length C] w fun e_ w' => e_ = .returned (.bool false) ∧ Below w.heap.size w w' := by
  have hmf : ∀ (fn : Fn) (first cap : Array Value) (w : World), (Instr.makeFunc fn first cap).run Try.prog w = .ok (.func fn first cap) w := fun _ _ _ _ => rfl
  have HC := Lib.hid (fun W => vvalid_is ex ey ez false hv W)
  clear hv
  have p0 : World.cell? (w.alloc (.cells #[.int .i64 ex, .int .i64 ey, .int .i64 ez] 27)) ⟨w.heap.size, 0, none⟩ = some (.int .i64 ex) := by simp [go_sem]
  have p1 : World.cell? (w.alloc (.cells #[.int .i64 ex, .int .i64 ey, .int .i64 ez] 27)) ⟨w.heap.size, 1, none⟩ = some (.int .i64 ey) := by simp [go_sem]
  have p2 : World.cell? (w.alloc (.cells #[.int .i64 ex, .int .i64 ey, .int .i64 ez] 27)) ⟨w.heap.size, 2, none⟩ = some (.int .i64 ez) := by simp [go_sem]
  have lp : w.heap.size < (w.alloc (.cells #[.int .i64 ex, .int .i64 ey, .int .i64 ez] 27)).heap.size := by simp <;> omega
  have HB := Lib.hid (show Below w.heap.size w (w.alloc (.cells #[.int .i64 ex, .int .i64 ey, .int .i64 ez] 27)) from ((Below.refl _ _).alloc (by simp <;> omega) _))
  go_enter Try.func66, Try.ntmps66
  go_upto_region 1 with fail
  generalize w.alloc (.cells #[.int .i64 ex, .int .i64 ey, .int .i64 ez] 27) = w1 at *
  go_wp2_with fail
  with_reducible refine (HC.out _).mono ?_
  rintro e_ w2 ⟨rfl, hb⟩
  replace HB := Lib.hid (on_below HB.out hb)
  replace p0 := keepc hb p0
  replace p1 := keepc hb p1
  replace p2 := keepc hb p2
  replace lp := Nat.lt_of_lt_of_le lp hb.size
  clear hb
  go_wp2_with fail
  go_ret
  exact ⟨rfl, HB.out⟩
set_option maxRecDepth 100000 in
set_option maxHeartbeats 2000000 in
theorem sut_1 (ex ey ez : Int) (A : Option Addr) (C : Nat) (T : List Q4) (hlen : T.length ≤ 9223372036854775807) (hv : vv ex ey ez = true) (r : Bool) (hr : r = true ↔ Sut ex ey ez T) (w : World) (hl : S4 w A T) :
    Calls Try.prog 66 #[.agg #[.int .i64 ex, .int .i64 ey, .int .i64 ez], .slice A T.length C] w fun e_ w' => e_ = .returned (.bool r) ∧ Below w.heap.size w w' := by
  have hmf : ∀ (fn : Fn) (first cap : Array Value) (w : World), (Instr.makeFunc fn first cap).run Try.prog w = .ok (.func fn first cap) w := fun _ _ _ _ => rfl
  have HC := Lib.hid (fun (g : Nat) W (h : S4 W A T) (g0 : W.cell? ⟨g, 0, none⟩ = some (.int .i64 ex)) (g1 : W.cell? ⟨g, 1, none⟩ = some (.int .i64 ey)) (g2 : W.cell? ⟨g, 2, none⟩ = some (.int .i64 ez)) => thas_is 78 #[.pointer (some ⟨g, 0, none⟩)] eye_enter A C T (fun k => decide ((gd4 T k).a = ex ∧ (gd4 T k).b = ey ∧ (gd4 T k).c = ez)) hlen W h (fun k hk W1 h1 => by simpa using ateye_is (gd4 T k).a (gd4 T k).b (gd4 T k).c (gd4 T k).d ex ey ez g _ rfl W1 (keepc h1 g0) (keepc h1 g1) (keepc h1 g2)) (!r) (by
    cases r
    · simp only [Bool.not_false, true_iff]
      apply Classical.byContradiction
      intro hn
      have : Sut ex ey ez T := ⟨vv_iff.1 hv, fun k hk h => hn ⟨k, hk, decide_eq_true h⟩⟩
      exact absurd (hr.2 this) (by decide)
    · have := hr.1 rfl
      simp only [Bool.not_true, Bool.false_eq_true, false_iff]
      rintro ⟨k, hk, h⟩
      exact this.2 k hk (of_decide_eq_true h)))
  have HV := Lib.hid (fun W => vvalid_is ex ey ez true hv W)
  clear hr hv
  have HL := Lib.hid hl
  clear hl
  have p0 : World.cell? (w.alloc (.cells #[.int .i64 ex, .int .i64 ey, .int .i64 ez] 27)) ⟨w.heap.size, 0, none⟩ = some (.int .i64 ex) := by simp [go_sem]
  have p1 : World.cell? (w.alloc (.cells #[.int .i64 ex, .int .i64 ey, .int .i64 ez] 27)) ⟨w.heap.size, 1, none⟩ = some (.int .i64 ey) := by simp [go_sem]
  have p2 : World.cell? (w.alloc (.cells #[.int .i64 ex, .int .i64 ey, .int .i64 ez] 27)) ⟨w.heap.size, 2, none⟩ = some (.int .i64 ez) := by simp [go_sem]
  have lp : w.heap.size < (w.alloc (.cells #[.int .i64 ex, .int .i64 ey, .int .i64 ez] 27)).heap.size := by simp <;> omega
  have HB := Lib.hid (show Below w.heap.size w (w.alloc (.cells #[.int .i64 ex, .int .i64 ey, .int .i64 ez] 27)) from ((Below.refl _ _).alloc (by simp <;> omega) _))
  go_enter Try.func66, Try.ntmps66
  go_upto_region 1 with fail
  generalize w.alloc (.cells #[.int .i64 ex, .int .i64 ey, .int .i64 ez] 27) = w1 at *
  replace HL := Lib.hid (HL.out.below HB.out)
  go_wp2_with fail
  with_reducible refine (HV.out _).mono ?_
  rintro e_ w2 ⟨rfl, hb⟩
  replace HB := Lib.hid (on_below HB.out hb)
  replace HL := Lib.hid (HL.out.below hb)
  replace p0 := keepc hb p0
  replace p1 := keepc hb p1
  replace p2 := keepc hb p2
  replace lp := Nat.lt_of_lt_of_le lp hb.size
  clear hb
  go_wp2_with fail
  with_reducible refine (HC.out _ _ HL.out p0 p1 p2).mono ?_
  rintro e_ w3 ⟨rfl, hb⟩
  replace HB := Lib.hid (on_below HB.out hb)
  replace HL := Lib.hid (HL.out.below hb)
  replace p0 := keepc hb p0
  replace p1 := keepc hb p1
  replace p2 := keepc hb p2
  replace lp := Nat.lt_of_lt_of_le lp hb.size
  clear hb
  go_wp2_with fail
  go_ret
  exact ⟨by cases r <;> rfl, HB.out⟩
theorem sut_is (ex ey ez : Int) (A : Option Addr) (C : Nat) (T : List Q4) (hlen : T.length ≤ 9223372036854775807) (r : Bool) (hr : r = true ↔ Sut ex ey ez T) (w : World) (hl : S4 w A T) :
    Calls Try.prog 66 #[.agg #[.int .i64 ex, .int .i64 ey, .int .i64 ez], .slice A T.length C] w fun e_ w' => e_ = .returned (.bool r) ∧ Below w.heap.size w w' := by
  cases hv : vv ex ey ez
  · obtain rfl : false = r := false_of fun e => by have := vv_iff.2 (hr.1 e).1; rw [hv] at this; cases this
    exact sut_0 ex ey ez A C T hv w
  · exact sut_1 ex ey ez A C T hlen hv r hr w hl
set_option maxRecDepth 100000 in
set_option maxHeartbeats 2000000 in
theorem abd_is (A : Option Addr) (C : Nat) (L : List Bv) (hlen : L.length ≤ 9223372036854775807) (hs : Bsm L) (r : Bool) (hr : r = true ↔ Bds L) (w : World) (hl : BdS w A L) :
    Calls Try.prog 67 #[.slice A L.length C] w fun e_ w' => e_ = .returned (.bool r) ∧ Below w.heap.size w w' := by
  have hmf : ∀ (fn : Fn) (first cap : Array Value) (w : World), (Instr.makeFunc fn first cap).run Try.prog w = .ok (.func fn first cap) w := fun _ _ _ _ => rfl
  obtain ⟨p, hp⟩ : ∃ p : Nat → Bool, ∀ k, p k = false ↔ Bok (gdB L k).xs (gdB L k).lo (gdB L k).hi := by
    classical
    exact ⟨fun k => !decide (Bok (gdB L k).xs (gdB L k).lo (gdB L k).hi), fun k => by simp⟩
  have HC := Lib.hid (fun W (h : BdS W A L) => bhas_is 79 #[] bd_enter A C L p hlen W h (fun k hk W1 h1 => by
    obtain ⟨_, _, _, _, _, _, hsl⟩ := h.below h1 k hk
    simpa using bd_is (gdB L k).A (gdB L k).C (gdB L k).xs (gdB L k).lo (gdB L k).hi (hs k hk) (p k) (hp k) W1 hsl) (!r) (by
    cases r
    · simp only [Bool.not_false, true_iff]
      apply Classical.byContradiction
      intro hn
      have : Bds L := fun k hk => (hp k).1 (not_true fun h => hn ⟨k, hk, h⟩)
      exact absurd (hr.2 this) (by decide)
    · have := hr.1 rfl
      simp only [Bool.not_true, Bool.false_eq_true, false_iff]
      rintro ⟨k, hk, h⟩
      rw [(hp k).2 (this k hk)] at h
      cases h))
  clear hr hs hp
  have HL := Lib.hid hl
  clear hl
  go_enter Try.func67, Try.ntmps67
  go_wp2_with fail
  refine (HC.out _ HL.out).mono ?_
  rintro e_ w1 ⟨rfl, hb⟩
  go_wp2_with fail
  go_ret
  exact ⟨by cases r <;> rfl, hb⟩
set_option maxRecDepth 100000 in
set_option maxHeartbeats 4000000 in
theorem num_is (A : Option Addr) (C : Nat) (N : List Q4) (n : Nat) (hlen : N.length ≤ 9223372036854775807) (hn : n ≤ 9223372036854775807) (r : Bool) (hr : r = true ↔ Num N n) (w : World) (hl : S4 w A N) :
    Calls Try.prog 51 #[.slice A N.length C, .int .i64 n] w fun e_ w' => e_ = .returned (.bool r) ∧ Below w.heap.size w w' := by
  have HL := Lib.hid hl
  clear hl
  have HR := Lib.hid hr
  clear hr
  by_cases hnn : N.length = n
  rotate_left
  · have hf := false_of (r := r) (fun e => hnn (HR.out.1 e).1)
    have z : ((N.length : Int) != (n : Int)) = true := by simp; omega
    subst hf
    go_enter Try.func51, Try.ntmps51
    go_wp2_with fail
    go_ret
    exact ⟨rfl, Below.refl _ _⟩
  have z : ((N.length : Int) != (n : Int)) = false := by simp [hnn]
  go_enter Try.func51, Try.ntmps51
  go_wp2_with fail
  clear z
  go_loopw [13] (fun i wr => ∃ k : Nat, k ≤ N.length ∧ i = .int .i64 k ∧ Hid (∀ j, j < k → (gd4 N j).a = j) ∧ Below w.heap.size w wr) (fun i _ => N.length - (intOf i).toNat)
  case atStart => exact ⟨0, Nat.zero_le _, rfl, fun j hj => absurd hj (Nat.not_lt_zero j), Below.refl _ _⟩
  case round =>
    obtain ⟨k, hk, rfl, HK, hW⟩ := hrel
    have HB := Lib.hid hW
    by_cases hlt : k < N.length
    · obtain ⟨b0, o0, rfl, e0, e1, e2, e3⟩ := HL.out.below hW k hlt
      clear hW
      have w1_ : IntKind.i64.wrap ((k : Int) + 1) = (k : Int) + 1 := IntWalk.i64_in _ ⟨by omega, by omega⟩
      have w2_ : wrap64 ((k : Int) + 1) = (k : Int) + 1 := IntWalk.wrap64_in _ ⟨by omega, by omega⟩
      have HA := Lib.hid (show ∃ a, (gd4 N k).a = a from ⟨_, rfl⟩)
      obtain ⟨a, ha⟩ := HA.out
      clear HA
      have HA := Lib.hid ha
      rw [ha] at e0
      clear ha
      generalize (gd4 N k).b = b at *
      generalize (gd4 N k).c = c at *
      generalize (gd4 N k).d = d at *
      by_cases hq : a = k
      · have z : (a != (k : Int)) = false := by simp [hq]
        have HQ := Lib.hid hq
        clear hq
        go_wp2_with fail
        go_roundw
        case rel => exact ⟨k + 1, hlt, int_of (by omega), (fun j hj => by by_cases e : j = k; (subst e; rw [HA.out, HQ.out]); exact HK.out j (by omega)), HB.out.alloc (HB.out.size) _⟩
        case measure => simp [intOf]; omega
      · have z : (a != (k : Int)) = true := by simp [hq]
        have hf := false_of (r := r) (fun e => hq (by rw [← HA.out]; exact (HR.out.1 e).2 k (by omega)))
        clear hq
        subst hf
        go_wp2_with fail
        go_ret
        exact ⟨rfl, HB.out.alloc (HB.out.size) _⟩
    · have hf := true_of (HR.out.2 ⟨hnn, fun j hj => HK.out j (by omega)⟩)
      subst hf
      go_wp2_with fail
      go_ret
      exact ⟨rfl, hW⟩
set_option maxRecDepth 100000 in
set_option maxHeartbeats 2000000 in
theorem eof_0 (ex ey ez : Int) (A : Option Addr) (C : Nat) (T : List Q4) (B : Option Addr) (D : Nat) (L : List Bv) (h4 : T.length ≤ 9223372036854775807) (h5 : L.length ≤ 9223372036854775807) (h1 : 60 < T.length) (w : World) :
    Calls Try.prog 48 #[.agg #[.int .i64 ex, .int .i64 ey, .int .i64 ez], .slice A T.length C, .slice B L.length D] w fun e_ w' => e_ = .returned (.int .i64 2) ∧ Below w.heap.size w w' := by
  have p0 : World.cell? (w.alloc (.cells #[.int .i64 ex, .int .i64 ey, .int .i64 ez] 27)) ⟨w.heap.size, 0, none⟩ = some (.int .i64 ex) := by simp [go_sem]
  have p1 : World.cell? (w.alloc (.cells #[.int .i64 ex, .int .i64 ey, .int .i64 ez] 27)) ⟨w.heap.size, 1, none⟩ = some (.int .i64 ey) := by simp [go_sem]
  have p2 : World.cell? (w.alloc (.cells #[.int .i64 ex, .int .i64 ey, .int .i64 ez] 27)) ⟨w.heap.size, 2, none⟩ = some (.int .i64 ez) := by simp [go_sem]
  have lp : w.heap.size < (w.alloc (.cells #[.int .i64 ex, .int .i64 ey, .int .i64 ez] 27)).heap.size := by simp <;> omega
  have HB := Lib.hid (show Below w.heap.size w (w.alloc (.cells #[.int .i64 ex, .int .i64 ey, .int .i64 ez] 27)) from ((Below.refl _ _).alloc (by simp <;> omega) _))
  go_enter Try.func48, Try.ntmps48
  go_upto_region 1 with fail
  generalize w.alloc (.cells #[.int .i64 ex, .int .i64 ey, .int .i64 ez] 27) = w1 at *
  go_wp2_with fail
  go_ret
  exact ⟨rfl, HB.out⟩
set_option maxRecDepth 100000 in
set_option maxHeartbeats 2000000 in
theorem eof_1 (ex ey ez : Int) (A : Option Addr) (C : Nat) (T : List Q4) (B : Option Addr) (D : Nat) (L : List Bv) (h4 : T.length ≤ 9223372036854775807) (h5 : L.length ≤ 9223372036854775807) (h1 : T.length ≤ 60) (h2 : 60 < L.length) (w : World) :
    Calls Try.prog 48 #[.agg #[.int .i64 ex, .int .i64 ey, .int .i64 ez], .slice A T.length C, .slice B L.length D] w fun e_ w' => e_ = .returned (.int .i64 2) ∧ Below w.heap.size w w' := by
  have p0 : World.cell? (w.alloc (.cells #[.int .i64 ex, .int .i64 ey, .int .i64 ez] 27)) ⟨w.heap.size, 0, none⟩ = some (.int .i64 ex) := by simp [go_sem]
  have p1 : World.cell? (w.alloc (.cells #[.int .i64 ex, .int .i64 ey, .int .i64 ez] 27)) ⟨w.heap.size, 1, none⟩ = some (.int .i64 ey) := by simp [go_sem]
  have p2 : World.cell? (w.alloc (.cells #[.int .i64 ex, .int .i64 ey, .int .i64 ez] 27)) ⟨w.heap.size, 2, none⟩ = some (.int .i64 ez) := by simp [go_sem]
  have lp : w.heap.size < (w.alloc (.cells #[.int .i64 ex, .int .i64 ey, .int .i64 ez] 27)).heap.size := by simp <;> omega
  have HB := Lib.hid (show Below w.heap.size w (w.alloc (.cells #[.int .i64 ex, .int .i64 ey, .int .i64 ez] 27)) from ((Below.refl _ _).alloc (by simp <;> omega) _))
  go_enter Try.func48, Try.ntmps48
  go_upto_region 1 with fail
  generalize w.alloc (.cells #[.int .i64 ex, .int .i64 ey, .int .i64 ez] 27) = w1 at *
  go_wp2_with fail
  go_ret
  exact ⟨rfl, HB.out⟩
set_option maxRecDepth 100000 in
set_option maxHeartbeats 2000000 in
theorem eof_2 (ex ey ez : Int) (A : Option Addr) (C : Nat) (T : List Q4) (B : Option Addr) (D : Nat) (L : List Bv) (h4 : T.length ≤ 9223372036854775807) (h5 : L.length ≤ 9223372036854775807) (h1 : T.length ≤ 60) (h2 : L.length ≤ 60) (ha : false = true ↔ Tok T) (w : World) (hl : S4 w A T) :
    Calls Try.prog 48 #[.agg #[.int .i64 ex, .int .i64 ey, .int .i64 ez], .slice A T.length C, .slice B L.length D] w fun e_ w' => e_ = .returned (.int .i64 1) ∧ Below w.heap.size w w' := by
  have CA := Lib.hid (fun W (h : S4 W A T) => atg_is A C T h4 false ha W h)
  clear ha
  have HL := Lib.hid hl
  clear hl
  have p0 : World.cell? (w.alloc (.cells #[.int .i64 ex, .int .i64 ey, .int .i64 ez] 27)) ⟨w.heap.size, 0, none⟩ = some (.int .i64 ex) := by simp [go_sem]
  have p1 : World.cell? (w.alloc (.cells #[.int .i64 ex, .int .i64 ey, .int .i64 ez] 27)) ⟨w.heap.size, 1, none⟩ = some (.int .i64 ey) := by simp [go_sem]
  have p2 : World.cell? (w.alloc (.cells #[.int .i64 ex, .int .i64 ey, .int .i64 ez] 27)) ⟨w.heap.size, 2, none⟩ = some (.int .i64 ez) := by simp [go_sem]
  have lp : w.heap.size < (w.alloc (.cells #[.int .i64 ex, .int .i64 ey, .int .i64 ez] 27)).heap.size := by simp <;> omega
  have HB := Lib.hid (show Below w.heap.size w (w.alloc (.cells #[.int .i64 ex, .int .i64 ey, .int .i64 ez] 27)) from ((Below.refl _ _).alloc (by simp <;> omega) _))
  go_enter Try.func48, Try.ntmps48
  go_upto_region 1 with fail
  generalize w.alloc (.cells #[.int .i64 ex, .int .i64 ey, .int .i64 ez] 27) = w1 at *
  replace HL := Lib.hid (HL.out.below HB.out)
  go_wp2_with fail
  with_reducible refine (CA.out _ HL.out).mono ?_
  rintro e_ w2 ⟨rfl, hb⟩
  replace HB := Lib.hid (on_below HB.out hb)
  replace HL := Lib.hid (HL.out.below hb)
  replace p0 := keepc hb p0
  replace p1 := keepc hb p1
  replace p2 := keepc hb p2
  replace lp := Nat.lt_of_lt_of_le lp hb.size
  clear hb
  go_wp2_with fail
  go_ret
  exact ⟨rfl, HB.out⟩
set_option maxRecDepth 100000 in
set_option maxHeartbeats 2000000 in
theorem eof_3 (ex ey ez : Int) (A : Option Addr) (C : Nat) (T : List Q4) (B : Option Addr) (D : Nat) (L : List Bv) (h4 : T.length ≤ 9223372036854775807) (h5 : L.length ≤ 9223372036854775807) (h1 : T.length ≤ 60) (h2 : L.length ≤ 60) (ha : true = true ↔ Tok T) (hb : false = true ↔ Sut ex ey ez T) (w : World) (hl : S4 w A T) :
    Calls Try.prog 48 #[.agg #[.int .i64 ex, .int .i64 ey, .int .i64 ez], .slice A T.length C, .slice B L.length D] w fun e_ w' => e_ = .returned (.int .i64 1) ∧ Below w.heap.size w w' := by
  have CA := Lib.hid (fun W (h : S4 W A T) => atg_is A C T h4 true ha W h)
  clear ha
  have CB := Lib.hid (fun W (h : S4 W A T) => sut_is ex ey ez A C T h4 false hb W h)
  clear hb
  have HL := Lib.hid hl
  clear hl
  have p0 : World.cell? (w.alloc (.cells #[.int .i64 ex, .int .i64 ey, .int .i64 ez] 27)) ⟨w.heap.size, 0, none⟩ = some (.int .i64 ex) := by simp [go_sem]
  have p1 : World.cell? (w.alloc (.cells #[.int .i64 ex, .int .i64 ey, .int .i64 ez] 27)) ⟨w.heap.size, 1, none⟩ = some (.int .i64 ey) := by simp [go_sem]
  have p2 : World.cell? (w.alloc (.cells #[.int .i64 ex, .int .i64 ey, .int .i64 ez] 27)) ⟨w.heap.size, 2, none⟩ = some (.int .i64 ez) := by simp [go_sem]
  have lp : w.heap.size < (w.alloc (.cells #[.int .i64 ex, .int .i64 ey, .int .i64 ez] 27)).heap.size := by simp <;> omega
  have HB := Lib.hid (show Below w.heap.size w (w.alloc (.cells #[.int .i64 ex, .int .i64 ey, .int .i64 ez] 27)) from ((Below.refl _ _).alloc (by simp <;> omega) _))
  go_enter Try.func48, Try.ntmps48
  go_upto_region 1 with fail
  generalize w.alloc (.cells #[.int .i64 ex, .int .i64 ey, .int .i64 ez] 27) = w1 at *
  replace HL := Lib.hid (HL.out.below HB.out)
  go_wp2_with fail
  with_reducible refine (CA.out _ HL.out).mono ?_
  rintro e_ w2 ⟨rfl, hb⟩
  replace HB := Lib.hid (on_below HB.out hb)
  replace HL := Lib.hid (HL.out.below hb)
  replace p0 := keepc hb p0
  replace p1 := keepc hb p1
  replace p2 := keepc hb p2
  replace lp := Nat.lt_of_lt_of_le lp hb.size
  clear hb
  go_wp2_with fail
  with_reducible refine (CB.out _ HL.out).mono ?_
  rintro e_ w3 ⟨rfl, hb⟩
  replace HB := Lib.hid (on_below HB.out hb)
  replace HL := Lib.hid (HL.out.below hb)
  replace p0 := keepc hb p0
  replace p1 := keepc hb p1
  replace p2 := keepc hb p2
  replace lp := Nat.lt_of_lt_of_le lp hb.size
  clear hb
  go_wp2_with fail
  go_ret
  exact ⟨rfl, HB.out⟩
set_option maxRecDepth 100000 in
set_option maxHeartbeats 2000000 in
theorem eof_4 (ex ey ez : Int) (A : Option Addr) (C : Nat) (T : List Q4) (B : Option Addr) (D : Nat) (L : List Bv) (h4 : T.length ≤ 9223372036854775807) (h5 : L.length ≤ 9223372036854775807) (h1 : T.length ≤ 60) (h2 : L.length ≤ 60) (ha : true = true ↔ Tok T) (hb : true = true ↔ Sut ex ey ez T) (hs : Bsm L) (hc : false = true ↔ Bds L) (w : World) (hl : S4 w A T) (hm : BdS w B L) :
    Calls Try.prog 48 #[.agg #[.int .i64 ex, .int .i64 ey, .int .i64 ez], .slice A T.length C, .slice B L.length D] w fun e_ w' => e_ = .returned (.int .i64 1) ∧ Below w.heap.size w w' := by
  have CA := Lib.hid (fun W (h : S4 W A T) => atg_is A C T h4 true ha W h)
  clear ha
  have CB := Lib.hid (fun W (h : S4 W A T) => sut_is ex ey ez A C T h4 true hb W h)
  clear hb
  have CC := Lib.hid (fun W (h : BdS W B L) => abd_is B D L h5 hs false hc W h)
  clear hc hs
  have HL := Lib.hid hl
  clear hl
  have HM := Lib.hid hm
  clear hm
  have p0 : World.cell? (w.alloc (.cells #[.int .i64 ex, .int .i64 ey, .int .i64 ez] 27)) ⟨w.heap.size, 0, none⟩ = some (.int .i64 ex) := by simp [go_sem]
  have p1 : World.cell? (w.alloc (.cells #[.int .i64 ex, .int .i64 ey, .int .i64 ez] 27)) ⟨w.heap.size, 1, none⟩ = some (.int .i64 ey) := by simp [go_sem]
  have p2 : World.cell? (w.alloc (.cells #[.int .i64 ex, .int .i64 ey, .int .i64 ez] 27)) ⟨w.heap.size, 2, none⟩ = some (.int .i64 ez) := by simp [go_sem]
  have lp : w.heap.size < (w.alloc (.cells #[.int .i64 ex, .int .i64 ey, .int .i64 ez] 27)).heap.size := by simp <;> omega
  have HB := Lib.hid (show Below w.heap.size w (w.alloc (.cells #[.int .i64 ex, .int .i64 ey, .int .i64 ez] 27)) from ((Below.refl _ _).alloc (by simp <;> omega) _))
  go_enter Try.func48, Try.ntmps48
  go_upto_region 1 with fail
  generalize w.alloc (.cells #[.int .i64 ex, .int .i64 ey, .int .i64 ez] 27) = w1 at *
  replace HL := Lib.hid (HL.out.below HB.out)
  replace HM := Lib.hid (HM.out.below HB.out)
  go_wp2_with fail
  with_reducible refine (CA.out _ HL.out).mono ?_
  rintro e_ w2 ⟨rfl, hb⟩
  replace HB := Lib.hid (on_below HB.out hb)
  replace HL := Lib.hid (HL.out.below hb)
  replace HM := Lib.hid (HM.out.below hb)
  replace p0 := keepc hb p0
  replace p1 := keepc hb p1
  replace p2 := keepc hb p2
  replace lp := Nat.lt_of_lt_of_le lp hb.size
  clear hb
  go_wp2_with fail
  with_reducible refine (CB.out _ HL.out).mono ?_
  rintro e_ w3 ⟨rfl, hb⟩
  replace HB := Lib.hid (on_below HB.out hb)
  replace HL := Lib.hid (HL.out.below hb)
  replace HM := Lib.hid (HM.out.below hb)
  replace p0 := keepc hb p0
  replace p1 := keepc hb p1
  replace p2 := keepc hb p2
  replace lp := Nat.lt_of_lt_of_le lp hb.size
  clear hb
  go_wp2_with fail
  with_reducible refine (CC.out _ HM.out).mono ?_
  rintro e_ w4 ⟨rfl, hb⟩
  replace HB := Lib.hid (on_below HB.out hb)
  replace HL := Lib.hid (HL.out.below hb)
  replace HM := Lib.hid (HM.out.below hb)
  replace p0 := keepc hb p0
  replace p1 := keepc hb p1
  replace p2 := keepc hb p2
  replace lp := Nat.lt_of_lt_of_le lp hb.size
  clear hb
  go_wp2_with fail
  go_ret
  exact ⟨rfl, HB.out⟩
set_option maxRecDepth 100000 in
set_option maxHeartbeats 2000000 in
theorem eof_5 (ex ey ez : Int) (A : Option Addr) (C : Nat) (T : List Q4) (B : Option Addr) (D : Nat) (L : List Bv) (h4 : T.length ≤ 9223372036854775807) (h5 : L.length ≤ 9223372036854775807) (h1 : T.length ≤ 60) (h2 : L.length ≤ 60) (ha : true = true ↔ Tok T) (hb : true = true ↔ Sut ex ey ez T) (hs : Bsm L) (hc : true = true ↔ Bds L) (w : World) (hl : S4 w A T) (hm : BdS w B L) :
    Calls Try.prog 48 #[.agg #[.int .i64 ex, .int .i64 ey, .int .i64 ez], .slice A T.length C, .slice B L.length D] w fun e_ w' => e_ = .returned (.int .i64 0) ∧ Below w.heap.size w w' := by
  have CA := Lib.hid (fun W (h : S4 W A T) => atg_is A C T h4 true ha W h)
  clear ha
  have CB := Lib.hid (fun W (h : S4 W A T) => sut_is ex ey ez A C T h4 true hb W h)
  clear hb
  have CC := Lib.hid (fun W (h : BdS W B L) => abd_is B D L h5 hs true hc W h)
  clear hc hs
  have HL := Lib.hid hl
  clear hl
  have HM := Lib.hid hm
  clear hm
  have p0 : World.cell? (w.alloc (.cells #[.int .i64 ex, .int .i64 ey, .int .i64 ez] 27)) ⟨w.heap.size, 0, none⟩ = some (.int .i64 ex) := by simp [go_sem]
  have p1 : World.cell? (w.alloc (.cells #[.int .i64 ex, .int .i64 ey, .int .i64 ez] 27)) ⟨w.heap.size, 1, none⟩ = some (.int .i64 ey) := by simp [go_sem]
  have p2 : World.cell? (w.alloc (.cells #[.int .i64 ex, .int .i64 ey, .int .i64 ez] 27)) ⟨w.heap.size, 2, none⟩ = some (.int .i64 ez) := by simp [go_sem]
  have lp : w.heap.size < (w.alloc (.cells #[.int .i64 ex, .int .i64 ey, .int .i64 ez] 27)).heap.size := by simp <;> omega
  have HB := Lib.hid (show Below w.heap.size w (w.alloc (.cells #[.int .i64 ex, .int .i64 ey, .int .i64 ez] 27)) from ((Below.refl _ _).alloc (by simp <;> omega) _))
  go_enter Try.func48, Try.ntmps48
  go_upto_region 1 with fail
  generalize w.alloc (.cells #[.int .i64 ex, .int .i64 ey, .int .i64 ez] 27) = w1 at *
  replace HL := Lib.hid (HL.out.below HB.out)
  replace HM := Lib.hid (HM.out.below HB.out)
  go_wp2_with fail
  with_reducible refine (CA.out _ HL.out).mono ?_
  rintro e_ w2 ⟨rfl, hb⟩
  replace HB := Lib.hid (on_below HB.out hb)
  replace HL := Lib.hid (HL.out.below hb)
  replace HM := Lib.hid (HM.out.below hb)
  replace p0 := keepc hb p0
  replace p1 := keepc hb p1
  replace p2 := keepc hb p2
  replace lp := Nat.lt_of_lt_of_le lp hb.size
  clear hb
  go_wp2_with fail
  with_reducible refine (CB.out _ HL.out).mono ?_
  rintro e_ w3 ⟨rfl, hb⟩
  replace HB := Lib.hid (on_below HB.out hb)
  replace HL := Lib.hid (HL.out.below hb)
  replace HM := Lib.hid (HM.out.below hb)
  replace p0 := keepc hb p0
  replace p1 := keepc hb p1
  replace p2 := keepc hb p2
  replace lp := Nat.lt_of_lt_of_le lp hb.size
  clear hb
  go_wp2_with fail
  with_reducible refine (CC.out _ HM.out).mono ?_
  rintro e_ w4 ⟨rfl, hb⟩
  replace HB := Lib.hid (on_below HB.out hb)
  replace HL := Lib.hid (HL.out.below hb)
  replace HM := Lib.hid (HM.out.below hb)
  replace p0 := keepc hb p0
  replace p1 := keepc hb p1
  replace p2 := keepc hb p2
  replace lp := Nat.lt_of_lt_of_le lp hb.size
  clear hb
  go_wp2_with fail
  go_ret
  exact ⟨rfl, HB.out⟩
theorem eof_is (ex ey ez : Int) (A : Option Addr) (C : Nat) (T : List Q4) (B : Option Addr) (D : Nat) (L : List Bv) (h4 : T.length ≤ 9223372036854775807) (h5 : L.length ≤ 9223372036854775807) (E : Int) (hE : Wrg ex ey ez T L E) (hs : T.length ≤ 60 → L.length ≤ 60 → Bsm L) (w : World) (hl : S4 w A T) (hm : BdS w B L) :
    Calls Try.prog 48 #[.agg #[.int .i64 ex, .int .i64 ey, .int .i64 ez], .slice A T.length C, .slice B L.length D] w fun e_ w' => e_ = .returned (.int .i64 E) ∧ Below w.heap.size w w' := by
  rcases hE with ⟨h, rfl⟩ | ⟨h1, h2, h, rfl⟩ | ⟨h1, h2, ht, hsu, hbd, rfl⟩
  · by_cases h1 : 60 < T.length
    · exact eof_0 ex ey ez A C T B D L h4 h5 h1 w
    · exact eof_1 ex ey ez A C T B D L h4 h5 (by omega) (by omega) w
  · by_cases ht : Tok T
    · by_cases hsu : Sut ex ey ez T
      · by_cases hbd : Bds L
        · exact absurd ⟨ht, hsu, hbd⟩ h
        · exact eof_4 ex ey ez A C T B D L h4 h5 h1 h2 (by simp [ht]) (by simp [hsu]) (hs h1 h2) (by simp [hbd]) w hl hm
      · exact eof_3 ex ey ez A C T B D L h4 h5 h1 h2 (by simp [ht]) (by simp [hsu]) w hl
    · exact eof_2 ex ey ez A C T B D L h4 h5 h1 h2 (by simp [ht]) w hl
  · exact eof_5 ex ey ez A C T B D L h4 h5 h1 h2 (by simp [ht]) (by simp [hsu]) (hs h1 h2) (by simp [hbd]) w hl hm
end Go.Proofs.Ytiffgcipdamngaa
