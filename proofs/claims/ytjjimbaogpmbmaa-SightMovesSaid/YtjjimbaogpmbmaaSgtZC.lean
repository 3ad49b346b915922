/-
  Package sight: isTrue. Package sight: Check. Package sight: Share. The reference of layer 9: Same, Few.
-/
import Derived.Test.YtjjimbaogpmbmaaSgtZB
import Derived.Test.YtjjimbaogpmbmaaShpM
namespace Go.Proofs.Ytjjimbaogpmbmaa
open Go.RowKit Go.Sort
open Go.RowKit (Below)
set_option linter.unusedVariables false
set_option linter.unusedSimpArgs false
attribute [local go_sem] Oper.semAt_some

theorem ln_eq {a b c d p q r s : Int} {e : Bool} (h : decide (a = p ∧ b = q ∧ c = r ∧ d = s) = e) (w : World) : (binOp .eql 70 (.agg #[.int .i64 a, .int .i64 b, .int .i64 c, .int .i64 d]) (.agg #[.int .i64 p, .int .i64 q, .int .i64 r, .int .i64 s])).run Try.prog w = .ok (.bool (e)) w := by
  subst h
  by_cases h1 : a = p
  · by_cases h2 : b = q
    · by_cases h3 : c = r
      · by_cases h4 : d = s
        · subst h1 h2 h3 h4; simp [go_sem]
        · simp [go_sem, h1, h2, h3, h4]
      · simp [go_sem, h1, h2, h3]
    · simp [go_sem, h1, h2]
  · simp [go_sem, h1]
theorem ln_ne {a b c d p q r s : Int} {e : Bool} (h : decide (a = p ∧ b = q ∧ c = r ∧ d = s) = e) (w : World) : (binOp .neq 70 (.agg #[.int .i64 a, .int .i64 b, .int .i64 c, .int .i64 d]) (.agg #[.int .i64 p, .int .i64 q, .int .i64 r, .int .i64 s])).run Try.prog w = .ok (.bool (!e)) w := by
  subst h
  by_cases h1 : a = p
  · by_cases h2 : b = q
    · by_cases h3 : c = r
      · by_cases h4 : d = s
        · subst h1 h2 h3 h4; simp [go_sem]
        · simp [go_sem, h1, h2, h3, h4]
      · simp [go_sem, h1, h2, h3]
    · simp [go_sem, h1, h2]
  · simp [go_sem, h1]
theorem nrw_vok {r : Rg} {a b : Int} (v : Vok r) (ha : -100000000 ≤ a ∧ a ≤ 100000000) (hb : -100000000 ≤ b ∧ b ≤ 100000000) : Vok (nrw r a b) := by
  unfold nrw
  split
  · exact v
  · split
    · split
      · exact ⟨q_vld (by omega) ⟨by omega, by omega⟩ (by omega), v.2⟩
      · exact v
    · split
      · exact ⟨v.1, q_vld (by omega) ⟨by omega, by omega⟩ (by omega)⟩
      · exact v
theorem clp_vok : ∀ {C : List (Int × Int)} {r : Rg}, Vok r → (∀ c ∈ C, (-32000000 ≤ c.1 ∧ c.1 ≤ 32000000) ∧ -32000000 ≤ c.2 ∧ c.2 ≤ 32000000) → Vok (clp r C)
  | [], r, k, _ => k
  | c :: C, r, k, h => by
    have h1 := h c (by simp)
    exact clp_vok (C := C) (nrw_vok k ⟨by omega, by omega⟩ ⟨by omega, by omega⟩) (fun x hx => h x (by simp [hx]))
theorem rng_vld {ex ey ez x y z : Int} {L : List Bv} (hw : Wy ex ey ez x y z) (hb : Bds L) {k : Nat} (hk : k < L.length) : vld (rng ex ey ez x y z (gdB L k)).ln (rng ex ey ez x y z (gdB L k)).ld = true ∧ vld (rng ex ey ez x y z (gdB L k)).hn (rng ex ey ez x y z (gdB L k)).hd = true :=
  clp_vok r0_vok (cnd_bd (hb k hk) hw.e hw.p)
set_option maxRecDepth 100000 in
set_option maxHeartbeats 2000000 in
theorem true_0 (ex ey ez x y z a b c d : Int) (B : Option Addr) (D : Nat) (L : List Bv) (h5 : L.length ≤ 9223372036854775806) (hw : Wy ex ey ez x y z) (hbd : Bds L) (hb : b = -1) (r : Bool) (hr : decide ((⟨a, b, c, d⟩ : Q4) = lin ex ey ez x y z L a) = r) (w : World) (hm : BdS w B L) :
    Calls Try.prog 64 #[.agg #[.int .i64 ex, .int .i64 ey, .int .i64 ez, .int .i64 x, .int .i64 y, .int .i64 z, .int .i64 a, .int .i64 b, .int .i64 c, .int .i64 d], .slice B L.length D] w fun e_ w' => e_ = .returned (.bool r) ∧ Below w.heap.size w w' := by
  obtain ⟨q, hq⟩ : ∃ q, lin ex ey ez x y z L a = q := ⟨_, rfl⟩
  have HC := Lib.hid (fun W (h : BdS W B L) => line_is ex ey ez x y z a B D L h5 hw hbd q hq W h)
  rw [hq] at hr
  obtain ⟨qa, qb, qc, qd⟩ := q
  simp only [Q4.mk.injEq] at hr
  have he : ∀ W, (binOp .eql 70 (.agg #[.int .i64 a, .int .i64 b, .int .i64 c, .int .i64 d]) (.agg #[.int .i64 qa, .int .i64 qb, .int .i64 qc, .int .i64 qd])).run Try.prog W = .ok (.bool r) W := fun W => ln_eq hr W
  have e1 : (b == -1) = true := by rw [hb]; rfl
  clear hr hq hw hbd hb
  have HM := Lib.hid hm
  clear hm
  have p0 : World.cell? (w.alloc (.cells #[.int .i64 ex, .int .i64 ey, .int .i64 ez, .int .i64 x, .int .i64 y, .int .i64 z, .int .i64 a, .int .i64 b, .int .i64 c, .int .i64 d] 110)) ⟨w.heap.size, 0, none⟩ = some (.int .i64 ex) := by simp [go_sem]
  have p1 : World.cell? (w.alloc (.cells #[.int .i64 ex, .int .i64 ey, .int .i64 ez, .int .i64 x, .int .i64 y, .int .i64 z, .int .i64 a, .int .i64 b, .int .i64 c, .int .i64 d] 110)) ⟨w.heap.size, 1, none⟩ = some (.int .i64 ey) := by simp [go_sem]
  have p2 : World.cell? (w.alloc (.cells #[.int .i64 ex, .int .i64 ey, .int .i64 ez, .int .i64 x, .int .i64 y, .int .i64 z, .int .i64 a, .int .i64 b, .int .i64 c, .int .i64 d] 110)) ⟨w.heap.size, 2, none⟩ = some (.int .i64 ez) := by simp [go_sem]
  have p3 : World.cell? (w.alloc (.cells #[.int .i64 ex, .int .i64 ey, .int .i64 ez, .int .i64 x, .int .i64 y, .int .i64 z, .int .i64 a, .int .i64 b, .int .i64 c, .int .i64 d] 110)) ⟨w.heap.size, 3, none⟩ = some (.int .i64 x) := by simp [go_sem]
  have p4 : World.cell? (w.alloc (.cells #[.int .i64 ex, .int .i64 ey, .int .i64 ez, .int .i64 x, .int .i64 y, .int .i64 z, .int .i64 a, .int .i64 b, .int .i64 c, .int .i64 d] 110)) ⟨w.heap.size, 4, none⟩ = some (.int .i64 y) := by simp [go_sem]
  have p5 : World.cell? (w.alloc (.cells #[.int .i64 ex, .int .i64 ey, .int .i64 ez, .int .i64 x, .int .i64 y, .int .i64 z, .int .i64 a, .int .i64 b, .int .i64 c, .int .i64 d] 110)) ⟨w.heap.size, 5, none⟩ = some (.int .i64 z) := by simp [go_sem]
  have p6 : World.cell? (w.alloc (.cells #[.int .i64 ex, .int .i64 ey, .int .i64 ez, .int .i64 x, .int .i64 y, .int .i64 z, .int .i64 a, .int .i64 b, .int .i64 c, .int .i64 d] 110)) ⟨w.heap.size, 6, none⟩ = some (.int .i64 a) := by simp [go_sem]
  have p7 : World.cell? (w.alloc (.cells #[.int .i64 ex, .int .i64 ey, .int .i64 ez, .int .i64 x, .int .i64 y, .int .i64 z, .int .i64 a, .int .i64 b, .int .i64 c, .int .i64 d] 110)) ⟨w.heap.size, 7, none⟩ = some (.int .i64 b) := by simp [go_sem]
  have p8 : World.cell? (w.alloc (.cells #[.int .i64 ex, .int .i64 ey, .int .i64 ez, .int .i64 x, .int .i64 y, .int .i64 z, .int .i64 a, .int .i64 b, .int .i64 c, .int .i64 d] 110)) ⟨w.heap.size, 8, none⟩ = some (.int .i64 c) := by simp [go_sem]
  have p9 : World.cell? (w.alloc (.cells #[.int .i64 ex, .int .i64 ey, .int .i64 ez, .int .i64 x, .int .i64 y, .int .i64 z, .int .i64 a, .int .i64 b, .int .i64 c, .int .i64 d] 110)) ⟨w.heap.size, 9, none⟩ = some (.int .i64 d) := by simp [go_sem]
  have lp : w.heap.size < (w.alloc (.cells #[.int .i64 ex, .int .i64 ey, .int .i64 ez, .int .i64 x, .int .i64 y, .int .i64 z, .int .i64 a, .int .i64 b, .int .i64 c, .int .i64 d] 110)).heap.size := by simp <;> omega
  have HB := Lib.hid (show Below w.heap.size w (w.alloc (.cells #[.int .i64 ex, .int .i64 ey, .int .i64 ez, .int .i64 x, .int .i64 y, .int .i64 z, .int .i64 a, .int .i64 b, .int .i64 c, .int .i64 d] 110)) from ((Below.refl _ _).alloc (by simp <;> omega) _))
  go_enter Try.func64, Try.ntmps64
  go_upto_region 1 with fail
  generalize w.alloc (.cells #[.int .i64 ex, .int .i64 ey, .int .i64 ez, .int .i64 x, .int .i64 y, .int .i64 z, .int .i64 a, .int .i64 b, .int .i64 c, .int .i64 d] 110) = w1 at *
  replace HM := Lib.hid (HM.out.below HB.out)
  go_wp2_with fail
  have kp : ∀ {W : World}, Below w1.heap.size w1 W → W.cell? ⟨w.heap.size, 0, none⟩ = some (.int .i64 ex) ∧ W.cell? ⟨w.heap.size, 1, none⟩ = some (.int .i64 ey) ∧ W.cell? ⟨w.heap.size, 2, none⟩ = some (.int .i64 ez) ∧ W.cell? ⟨w.heap.size, 3, none⟩ = some (.int .i64 x) ∧ W.cell? ⟨w.heap.size, 4, none⟩ = some (.int .i64 y) ∧ W.cell? ⟨w.heap.size, 5, none⟩ = some (.int .i64 z) ∧ W.cell? ⟨w.heap.size, 6, none⟩ = some (.int .i64 a) ∧ W.cell? ⟨w.heap.size, 7, none⟩ = some (.int .i64 b) ∧ W.cell? ⟨w.heap.size, 8, none⟩ = some (.int .i64 c) ∧ W.cell? ⟨w.heap.size, 9, none⟩ = some (.int .i64 d) ∧ Below w1.heap.size w1 W := fun h => ⟨keepc h p0, keepc h p1, keepc h p2, keepc h p3, keepc h p4, keepc h p5, keepc h p6, keepc h p7, keepc h p8, keepc h p9, h⟩
  go_region_held3 (fun W => W.cell? ⟨w.heap.size, 0, none⟩ = some (.int .i64 ex) ∧ W.cell? ⟨w.heap.size, 1, none⟩ = some (.int .i64 ey) ∧ W.cell? ⟨w.heap.size, 2, none⟩ = some (.int .i64 ez) ∧ W.cell? ⟨w.heap.size, 3, none⟩ = some (.int .i64 x) ∧ W.cell? ⟨w.heap.size, 4, none⟩ = some (.int .i64 y) ∧ W.cell? ⟨w.heap.size, 5, none⟩ = some (.int .i64 z) ∧ W.cell? ⟨w.heap.size, 6, none⟩ = some (.int .i64 a) ∧ W.cell? ⟨w.heap.size, 7, none⟩ = some (.int .i64 b) ∧ W.cell? ⟨w.heap.size, 8, none⟩ = some (.int .i64 c) ∧ W.cell? ⟨w.heap.size, 9, none⟩ = some (.int .i64 d) ∧ Below w1.heap.size w1 W)
    (first | assumption | exact kp (Below.refl _ _).drew | (go_split_ands; refine kp ?_; (first | (refine on_below ?_ hb; assumption) | assumption)))
    (first | (go_at_call 62; (with_reducible refine (HC.out _ (HM.out.below ?_)).mono ?_); (first | exact (Below.refl _ _).drew | (go_split_ands; assumption)); rintro e' w2 ⟨rfl, hb⟩))
  go_split_ands
  have hB : Below w1.heap.size w1 w2 := by assumption
  go_wp2_with fail
  go_ret
  exact ⟨rfl, on_below HB.out hB⟩
set_option maxRecDepth 100000 in
set_option maxHeartbeats 2000000 in
theorem true_1 (ex ey ez x y z a b c d : Int) (B : Option Addr) (D : Nat) (L : List Bv) (h5 : L.length ≤ 9223372036854775806) (hw : Wy ex ey ez x y z) (hbd : Bds L) (hb : b ≠ -1) (hn : b < 0) (w : World) :
    Calls Try.prog 64 #[.agg #[.int .i64 ex, .int .i64 ey, .int .i64 ez, .int .i64 x, .int .i64 y, .int .i64 z, .int .i64 a, .int .i64 b, .int .i64 c, .int .i64 d], .slice B L.length D] w fun e_ w' => e_ = .returned (.bool false) ∧ Below w.heap.size w w' := by
  have e1 : (b == -1) = false := by rw [beq_eq_false_iff_ne]; omega
  have e2 : decide (b < 0) = true := decide_eq_true hn
  have p0 : World.cell? (w.alloc (.cells #[.int .i64 ex, .int .i64 ey, .int .i64 ez, .int .i64 x, .int .i64 y, .int .i64 z, .int .i64 a, .int .i64 b, .int .i64 c, .int .i64 d] 110)) ⟨w.heap.size, 0, none⟩ = some (.int .i64 ex) := by simp [go_sem]
  have p1 : World.cell? (w.alloc (.cells #[.int .i64 ex, .int .i64 ey, .int .i64 ez, .int .i64 x, .int .i64 y, .int .i64 z, .int .i64 a, .int .i64 b, .int .i64 c, .int .i64 d] 110)) ⟨w.heap.size, 1, none⟩ = some (.int .i64 ey) := by simp [go_sem]
  have p2 : World.cell? (w.alloc (.cells #[.int .i64 ex, .int .i64 ey, .int .i64 ez, .int .i64 x, .int .i64 y, .int .i64 z, .int .i64 a, .int .i64 b, .int .i64 c, .int .i64 d] 110)) ⟨w.heap.size, 2, none⟩ = some (.int .i64 ez) := by simp [go_sem]
  have p3 : World.cell? (w.alloc (.cells #[.int .i64 ex, .int .i64 ey, .int .i64 ez, .int .i64 x, .int .i64 y, .int .i64 z, .int .i64 a, .int .i64 b, .int .i64 c, .int .i64 d] 110)) ⟨w.heap.size, 3, none⟩ = some (.int .i64 x) := by simp [go_sem]
  have p4 : World.cell? (w.alloc (.cells #[.int .i64 ex, .int .i64 ey, .int .i64 ez, .int .i64 x, .int .i64 y, .int .i64 z, .int .i64 a, .int .i64 b, .int .i64 c, .int .i64 d] 110)) ⟨w.heap.size, 4, none⟩ = some (.int .i64 y) := by simp [go_sem]
  have p5 : World.cell? (w.alloc (.cells #[.int .i64 ex, .int .i64 ey, .int .i64 ez, .int .i64 x, .int .i64 y, .int .i64 z, .int .i64 a, .int .i64 b, .int .i64 c, .int .i64 d] 110)) ⟨w.heap.size, 5, none⟩ = some (.int .i64 z) := by simp [go_sem]
  have p6 : World.cell? (w.alloc (.cells #[.int .i64 ex, .int .i64 ey, .int .i64 ez, .int .i64 x, .int .i64 y, .int .i64 z, .int .i64 a, .int .i64 b, .int .i64 c, .int .i64 d] 110)) ⟨w.heap.size, 6, none⟩ = some (.int .i64 a) := by simp [go_sem]
  have p7 : World.cell? (w.alloc (.cells #[.int .i64 ex, .int .i64 ey, .int .i64 ez, .int .i64 x, .int .i64 y, .int .i64 z, .int .i64 a, .int .i64 b, .int .i64 c, .int .i64 d] 110)) ⟨w.heap.size, 7, none⟩ = some (.int .i64 b) := by simp [go_sem]
  have p8 : World.cell? (w.alloc (.cells #[.int .i64 ex, .int .i64 ey, .int .i64 ez, .int .i64 x, .int .i64 y, .int .i64 z, .int .i64 a, .int .i64 b, .int .i64 c, .int .i64 d] 110)) ⟨w.heap.size, 8, none⟩ = some (.int .i64 c) := by simp [go_sem]
  have p9 : World.cell? (w.alloc (.cells #[.int .i64 ex, .int .i64 ey, .int .i64 ez, .int .i64 x, .int .i64 y, .int .i64 z, .int .i64 a, .int .i64 b, .int .i64 c, .int .i64 d] 110)) ⟨w.heap.size, 9, none⟩ = some (.int .i64 d) := by simp [go_sem]
  have lp : w.heap.size < (w.alloc (.cells #[.int .i64 ex, .int .i64 ey, .int .i64 ez, .int .i64 x, .int .i64 y, .int .i64 z, .int .i64 a, .int .i64 b, .int .i64 c, .int .i64 d] 110)).heap.size := by simp <;> omega
  have HB := Lib.hid (show Below w.heap.size w (w.alloc (.cells #[.int .i64 ex, .int .i64 ey, .int .i64 ez, .int .i64 x, .int .i64 y, .int .i64 z, .int .i64 a, .int .i64 b, .int .i64 c, .int .i64 d] 110)) from ((Below.refl _ _).alloc (by simp <;> omega) _))
  go_enter Try.func64, Try.ntmps64
  go_upto_region 1 with fail
  generalize w.alloc (.cells #[.int .i64 ex, .int .i64 ey, .int .i64 ez, .int .i64 x, .int .i64 y, .int .i64 z, .int .i64 a, .int .i64 b, .int .i64 c, .int .i64 d] 110) = w1 at *
  go_wp2_with fail
  go_ret
  exact ⟨rfl, HB.out⟩
set_option maxRecDepth 100000 in
set_option maxHeartbeats 2000000 in
theorem true_2 (ex ey ez x y z a b c d : Int) (B : Option Addr) (D : Nat) (L : List Bv) (h5 : L.length ≤ 9223372036854775806) (hw : Wy ex ey ez x y z) (hbd : Bds L) (hb : 0 ≤ b) (hn : (L.length : Int) ≤ b) (w : World) :
    Calls Try.prog 64 #[.agg #[.int .i64 ex, .int .i64 ey, .int .i64 ez, .int .i64 x, .int .i64 y, .int .i64 z, .int .i64 a, .int .i64 b, .int .i64 c, .int .i64 d], .slice B L.length D] w fun e_ w' => e_ = .returned (.bool false) ∧ Below w.heap.size w w' := by
  have e1 : (b == -1) = false := by rw [beq_eq_false_iff_ne]; omega
  have e2 : decide (b < 0) = false := decide_eq_false (by omega)
  have e3 : decide ((L.length : Int) ≤ b) = true := decide_eq_true hn
  have p0 : World.cell? (w.alloc (.cells #[.int .i64 ex, .int .i64 ey, .int .i64 ez, .int .i64 x, .int .i64 y, .int .i64 z, .int .i64 a, .int .i64 b, .int .i64 c, .int .i64 d] 110)) ⟨w.heap.size, 0, none⟩ = some (.int .i64 ex) := by simp [go_sem]
  have p1 : World.cell? (w.alloc (.cells #[.int .i64 ex, .int .i64 ey, .int .i64 ez, .int .i64 x, .int .i64 y, .int .i64 z, .int .i64 a, .int .i64 b, .int .i64 c, .int .i64 d] 110)) ⟨w.heap.size, 1, none⟩ = some (.int .i64 ey) := by simp [go_sem]
  have p2 : World.cell? (w.alloc (.cells #[.int .i64 ex, .int .i64 ey, .int .i64 ez, .int .i64 x, .int .i64 y, .int .i64 z, .int .i64 a, .int .i64 b, .int .i64 c, .int .i64 d] 110)) ⟨w.heap.size, 2, none⟩ = some (.int .i64 ez) := by simp [go_sem]
  have p3 : World.cell? (w.alloc (.cells #[.int .i64 ex, .int .i64 ey, .int .i64 ez, .int .i64 x, .int .i64 y, .int .i64 z, .int .i64 a, .int .i64 b, .int .i64 c, .int .i64 d] 110)) ⟨w.heap.size, 3, none⟩ = some (.int .i64 x) := by simp [go_sem]
  have p4 : World.cell? (w.alloc (.cells #[.int .i64 ex, .int .i64 ey, .int .i64 ez, .int .i64 x, .int .i64 y, .int .i64 z, .int .i64 a, .int .i64 b, .int .i64 c, .int .i64 d] 110)) ⟨w.heap.size, 4, none⟩ = some (.int .i64 y) := by simp [go_sem]
  have p5 : World.cell? (w.alloc (.cells #[.int .i64 ex, .int .i64 ey, .int .i64 ez, .int .i64 x, .int .i64 y, .int .i64 z, .int .i64 a, .int .i64 b, .int .i64 c, .int .i64 d] 110)) ⟨w.heap.size, 5, none⟩ = some (.int .i64 z) := by simp [go_sem]
  have p6 : World.cell? (w.alloc (.cells #[.int .i64 ex, .int .i64 ey, .int .i64 ez, .int .i64 x, .int .i64 y, .int .i64 z, .int .i64 a, .int .i64 b, .int .i64 c, .int .i64 d] 110)) ⟨w.heap.size, 6, none⟩ = some (.int .i64 a) := by simp [go_sem]
  have p7 : World.cell? (w.alloc (.cells #[.int .i64 ex, .int .i64 ey, .int .i64 ez, .int .i64 x, .int .i64 y, .int .i64 z, .int .i64 a, .int .i64 b, .int .i64 c, .int .i64 d] 110)) ⟨w.heap.size, 7, none⟩ = some (.int .i64 b) := by simp [go_sem]
  have p8 : World.cell? (w.alloc (.cells #[.int .i64 ex, .int .i64 ey, .int .i64 ez, .int .i64 x, .int .i64 y, .int .i64 z, .int .i64 a, .int .i64 b, .int .i64 c, .int .i64 d] 110)) ⟨w.heap.size, 8, none⟩ = some (.int .i64 c) := by simp [go_sem]
  have p9 : World.cell? (w.alloc (.cells #[.int .i64 ex, .int .i64 ey, .int .i64 ez, .int .i64 x, .int .i64 y, .int .i64 z, .int .i64 a, .int .i64 b, .int .i64 c, .int .i64 d] 110)) ⟨w.heap.size, 9, none⟩ = some (.int .i64 d) := by simp [go_sem]
  have lp : w.heap.size < (w.alloc (.cells #[.int .i64 ex, .int .i64 ey, .int .i64 ez, .int .i64 x, .int .i64 y, .int .i64 z, .int .i64 a, .int .i64 b, .int .i64 c, .int .i64 d] 110)).heap.size := by simp <;> omega
  have HB := Lib.hid (show Below w.heap.size w (w.alloc (.cells #[.int .i64 ex, .int .i64 ey, .int .i64 ez, .int .i64 x, .int .i64 y, .int .i64 z, .int .i64 a, .int .i64 b, .int .i64 c, .int .i64 d] 110)) from ((Below.refl _ _).alloc (by simp <;> omega) _))
  go_enter Try.func64, Try.ntmps64
  go_upto_region 1 with fail
  generalize w.alloc (.cells #[.int .i64 ex, .int .i64 ey, .int .i64 ez, .int .i64 x, .int .i64 y, .int .i64 z, .int .i64 a, .int .i64 b, .int .i64 c, .int .i64 d] 110) = w1 at *
  go_wp2_with fail
  go_ret
  exact ⟨rfl, HB.out⟩
set_option maxRecDepth 100000 in
set_option maxHeartbeats 4000000 in
theorem true_3 (ex ey ez x y z a c d : Int) (B : Option Addr) (D : Nat) (L : List Bv) (h5 : L.length ≤ 9223372036854775806) (hw : Wy ex ey ez x y z) (hbd : Bds L) (k : Nat) (hk : k < L.length) (ic : I64 c) (id_ : I64 d) (r : Bool) (hr : r = true ↔ (hit ex ey ez x y z (gdB L k) = true ∧ vld c d = true ∧ (rng ex ey ez x y z (gdB L k)).ln * d < c * (rng ex ey ez x y z (gdB L k)).ld ∧ c * (rng ex ey ez x y z (gdB L k)).hd < (rng ex ey ez x y z (gdB L k)).hn * d)) (w : World) (hm : BdS w B L) :
    Calls Try.prog 64 #[.agg #[.int .i64 ex, .int .i64 ey, .int .i64 ez, .int .i64 x, .int .i64 y, .int .i64 z, .int .i64 a, .int .i64 ((k : Int)), .int .i64 c, .int .i64 d], .slice B L.length D] w fun e_ w' => e_ = .returned (.bool r) ∧ Below w.heap.size w w' := by
  have e1 : ((k : Int) == -1) = false := by rw [beq_eq_false_iff_ne]; omega
  have e2 : decide ((k : Int) < 0) = false := decide_eq_false (by omega)
  have e3 : decide ((L.length : Int) ≤ (k : Int)) = false := decide_eq_false (by omega)
  have e4 : (k : Int) < L.length := by omega
  have ok := rng_ok hw hbd hk
  have HR := Lib.hid (show ∃ h ra rb rc rd, ClR (gdB L k).xs (gdB L k).lo (gdB L k).hi ex ey ez x y z ⟨ra, rb, rc, rd, h⟩ 0 ∧ vld ra rb = true ∧ vld rc rd = true ∧ (h && (vld c d && decide (ra * d < c * rb) && decide (c * rd < rc * d))) = r from by
    cases hh : hit ex ey ez x y z (gdB L k)
    · refine ⟨false, 0, 1, 0, 1, clr_no hw hbd hk hh, by decide, by decide, ?_⟩
      rw [hh] at hr
      rw [Bool.false_and]
      exact false_of fun e => by have := (hr.1 e).1; cases this
    · refine ⟨true, _, _, _, _, clr_hit hw hbd hk hh, (rng_vld hw hbd hk).1, (rng_vld hw hbd hk).2, ?_⟩
      rw [hh] at hr
      rw [Bool.true_and]
      cases r
      · cases hx : (vld c d && decide ((rng ex ey ez x y z (gdB L k)).ln * d < c * (rng ex ey ez x y z (gdB L k)).ld) && decide (c * (rng ex ey ez x y z (gdB L k)).hd < (rng ex ey ez x y z (gdB L k)).hn * d))
        · rfl
        · simp only [Bool.and_eq_true, decide_eq_true_eq] at hx
          exact absurd (hr.2 ⟨rfl, hx.1.1, hx.1.2, hx.2⟩) (by decide)
      · obtain ⟨_, h1, h2, h3⟩ := hr.1 rfl
        simp [h1, h2, h3])
  obtain ⟨h, ra, rb, rc, rd, hcl, v1, v2, hrr⟩ := HR.out
  clear HR hr ok
  have HC := Lib.hid (fun W (hl : SlS W (gdB L k).A (gdB L k).xs) => clipby_is (gdB L k).A (gdB L k).C (gdB L k).xs (gdB L k).lo (gdB L k).hi ex ey ez x y z (bok_len hbd hk) ra rb rc rd h hcl W hl)
  have HH := Lib.hid (fun W => has_is ra rb rc rd c d ic id_ v1 v2 _ rfl W)
  clear hcl v1 v2 hw hbd
  have HM := Lib.hid hm
  clear hm
  have p0 : World.cell? (w.alloc (.cells #[.int .i64 ex, .int .i64 ey, .int .i64 ez, .int .i64 x, .int .i64 y, .int .i64 z, .int .i64 a, .int .i64 ((k : Int)), .int .i64 c, .int .i64 d] 110)) ⟨w.heap.size, 0, none⟩ = some (.int .i64 ex) := by simp [go_sem]
  have p1 : World.cell? (w.alloc (.cells #[.int .i64 ex, .int .i64 ey, .int .i64 ez, .int .i64 x, .int .i64 y, .int .i64 z, .int .i64 a, .int .i64 ((k : Int)), .int .i64 c, .int .i64 d] 110)) ⟨w.heap.size, 1, none⟩ = some (.int .i64 ey) := by simp [go_sem]
  have p2 : World.cell? (w.alloc (.cells #[.int .i64 ex, .int .i64 ey, .int .i64 ez, .int .i64 x, .int .i64 y, .int .i64 z, .int .i64 a, .int .i64 ((k : Int)), .int .i64 c, .int .i64 d] 110)) ⟨w.heap.size, 2, none⟩ = some (.int .i64 ez) := by simp [go_sem]
  have p3 : World.cell? (w.alloc (.cells #[.int .i64 ex, .int .i64 ey, .int .i64 ez, .int .i64 x, .int .i64 y, .int .i64 z, .int .i64 a, .int .i64 ((k : Int)), .int .i64 c, .int .i64 d] 110)) ⟨w.heap.size, 3, none⟩ = some (.int .i64 x) := by simp [go_sem]
  have p4 : World.cell? (w.alloc (.cells #[.int .i64 ex, .int .i64 ey, .int .i64 ez, .int .i64 x, .int .i64 y, .int .i64 z, .int .i64 a, .int .i64 ((k : Int)), .int .i64 c, .int .i64 d] 110)) ⟨w.heap.size, 4, none⟩ = some (.int .i64 y) := by simp [go_sem]
  have p5 : World.cell? (w.alloc (.cells #[.int .i64 ex, .int .i64 ey, .int .i64 ez, .int .i64 x, .int .i64 y, .int .i64 z, .int .i64 a, .int .i64 ((k : Int)), .int .i64 c, .int .i64 d] 110)) ⟨w.heap.size, 5, none⟩ = some (.int .i64 z) := by simp [go_sem]
  have p6 : World.cell? (w.alloc (.cells #[.int .i64 ex, .int .i64 ey, .int .i64 ez, .int .i64 x, .int .i64 y, .int .i64 z, .int .i64 a, .int .i64 ((k : Int)), .int .i64 c, .int .i64 d] 110)) ⟨w.heap.size, 6, none⟩ = some (.int .i64 a) := by simp [go_sem]
  have p7 : World.cell? (w.alloc (.cells #[.int .i64 ex, .int .i64 ey, .int .i64 ez, .int .i64 x, .int .i64 y, .int .i64 z, .int .i64 a, .int .i64 ((k : Int)), .int .i64 c, .int .i64 d] 110)) ⟨w.heap.size, 7, none⟩ = some (.int .i64 ((k : Int))) := by simp [go_sem]
  have p8 : World.cell? (w.alloc (.cells #[.int .i64 ex, .int .i64 ey, .int .i64 ez, .int .i64 x, .int .i64 y, .int .i64 z, .int .i64 a, .int .i64 ((k : Int)), .int .i64 c, .int .i64 d] 110)) ⟨w.heap.size, 8, none⟩ = some (.int .i64 c) := by simp [go_sem]
  have p9 : World.cell? (w.alloc (.cells #[.int .i64 ex, .int .i64 ey, .int .i64 ez, .int .i64 x, .int .i64 y, .int .i64 z, .int .i64 a, .int .i64 ((k : Int)), .int .i64 c, .int .i64 d] 110)) ⟨w.heap.size, 9, none⟩ = some (.int .i64 d) := by simp [go_sem]
  have lp : w.heap.size < (w.alloc (.cells #[.int .i64 ex, .int .i64 ey, .int .i64 ez, .int .i64 x, .int .i64 y, .int .i64 z, .int .i64 a, .int .i64 ((k : Int)), .int .i64 c, .int .i64 d] 110)).heap.size := by simp <;> omega
  have HB := Lib.hid (show Below w.heap.size w (w.alloc (.cells #[.int .i64 ex, .int .i64 ey, .int .i64 ez, .int .i64 x, .int .i64 y, .int .i64 z, .int .i64 a, .int .i64 ((k : Int)), .int .i64 c, .int .i64 d] 110)) from ((Below.refl _ _).alloc (by simp <;> omega) _))
  go_enter Try.func64, Try.ntmps64
  go_upto_region 1 with fail
  generalize w.alloc (.cells #[.int .i64 ex, .int .i64 ey, .int .i64 ez, .int .i64 x, .int .i64 y, .int .i64 z, .int .i64 a, .int .i64 ((k : Int)), .int .i64 c, .int .i64 d] 110) = w1 at *
  replace HM := Lib.hid (HM.out.below HB.out)
  obtain ⟨b0, o0, rfl, m0, m1, m2, hsl⟩ := HM.out k hk
  have HS := Lib.hid hsl
  clear hsl HM
  generalize gdB L k = u at *
  obtain ⟨uA, uC, ux, ul, uh⟩ := u
  dsimp only at m0 m1 m2 HC HS
  go_wp2_with fail
  have kp : ∀ {W : World}, Below w1.heap.size w1 W → W.cell? ⟨w.heap.size, 0, none⟩ = some (.int .i64 ex) ∧ W.cell? ⟨w.heap.size, 1, none⟩ = some (.int .i64 ey) ∧ W.cell? ⟨w.heap.size, 2, none⟩ = some (.int .i64 ez) ∧ W.cell? ⟨w.heap.size, 3, none⟩ = some (.int .i64 x) ∧ W.cell? ⟨w.heap.size, 4, none⟩ = some (.int .i64 y) ∧ W.cell? ⟨w.heap.size, 5, none⟩ = some (.int .i64 z) ∧ W.cell? ⟨w.heap.size, 6, none⟩ = some (.int .i64 a) ∧ W.cell? ⟨w.heap.size, 7, none⟩ = some (.int .i64 (k : Int)) ∧ W.cell? ⟨w.heap.size, 8, none⟩ = some (.int .i64 c) ∧ W.cell? ⟨w.heap.size, 9, none⟩ = some (.int .i64 d) ∧ W.cell? ⟨b0, o0 + k * 3, none⟩ = some (.slice uA ux.length uC) ∧ W.cell? ⟨b0, o0 + k * 3 + 1, none⟩ = some (.int .i64 ul) ∧ W.cell? ⟨b0, o0 + k * 3 + 2, none⟩ = some (.int .i64 uh) := fun h => ⟨keepc h p0, keepc h p1, keepc h p2, keepc h p3, keepc h p4, keepc h p5, keepc h p6, keepc h p7, keepc h p8, keepc h p9, keepc h m0, keepc h m1, keepc h m2⟩
  refine wp_region_held_drew (S := fun V => V.cell? ⟨w.heap.size, 0, none⟩ = some (.int .i64 ex) ∧ V.cell? ⟨w.heap.size, 1, none⟩ = some (.int .i64 ey) ∧ V.cell? ⟨w.heap.size, 2, none⟩ = some (.int .i64 ez) ∧ V.cell? ⟨w.heap.size, 3, none⟩ = some (.int .i64 x) ∧ V.cell? ⟨w.heap.size, 4, none⟩ = some (.int .i64 y) ∧ V.cell? ⟨w.heap.size, 5, none⟩ = some (.int .i64 z) ∧ V.cell? ⟨w.heap.size, 6, none⟩ = some (.int .i64 a) ∧ V.cell? ⟨w.heap.size, 7, none⟩ = some (.int .i64 (k : Int)) ∧ V.cell? ⟨w.heap.size, 8, none⟩ = some (.int .i64 c) ∧ V.cell? ⟨w.heap.size, 9, none⟩ = some (.int .i64 d) ∧ V.cell? ⟨b0, o0 + k * 3, none⟩ = some (.slice uA ux.length uC) ∧ V.cell? ⟨b0, o0 + k * 3 + 1, none⟩ = some (.int .i64 ul) ∧ V.cell? ⟨b0, o0 + k * 3 + 2, none⟩ = some (.int .i64 uh)) (by kernel_rfl) (kp (Below.refl _ _).drew) fun HL_ => ?_
  refine wpAnyH_take (i := 0) (v := .pointer (some ⟨w.heap.size, 0, none⟩)) rfl (by kernel_rfl) (by kernel_rfl) (by kernel_rfl) (fun _ _ _ h => h) (Or.inl ⟨by kernel_rfl, ?_⟩) HL_ ?_
  · rintro Wl ⟨s0, s1, s2, s3, s4, s5, s6, s7, s8, s9, s10, s11, s12⟩
    go_simp
  simp only [Act.put, List.getElem_toArray, List.getElem_cons_succ, List.getElem_cons_zero, List.setIfInBounds_toArray, List.set_cons_zero, List.set_cons_succ]
  refine wpAnyH_take (i := 1) (v := .agg #[.int .i64 ex, .int .i64 ey, .int .i64 ez, .int .i64 x, .int .i64 y, .int .i64 z]) rfl (by kernel_rfl) (by kernel_rfl) (by kernel_rfl) (fun _ _ _ h => h) (Or.inl ⟨by kernel_rfl, ?_⟩) HL_ ?_
  · rintro Wl ⟨s0, s1, s2, s3, s4, s5, s6, s7, s8, s9, s10, s11, s12⟩
    go_simp
  simp only [Act.put, List.getElem_toArray, List.getElem_cons_succ, List.getElem_cons_zero, List.setIfInBounds_toArray, List.set_cons_zero, List.set_cons_succ]
  refine wpAnyH_take (i := 2) (v := .slice (some ⟨b0, o0, none⟩) L.length D) rfl (by kernel_rfl) (by kernel_rfl) (by kernel_rfl) (fun _ _ _ h => h) (Or.inl ⟨by kernel_rfl, ?_⟩) HL_ ?_
  · rintro Wl ⟨s0, s1, s2, s3, s4, s5, s6, s7, s8, s9, s10, s11, s12⟩
    go_simp
  simp only [Act.put, List.getElem_toArray, List.getElem_cons_succ, List.getElem_cons_zero, List.setIfInBounds_toArray, List.set_cons_zero, List.set_cons_succ]
  refine wpAnyH_take (i := 3) (v := .pointer (some ⟨w.heap.size, 6, none⟩)) rfl (by kernel_rfl) (by kernel_rfl) (by kernel_rfl) (fun _ _ _ h => h) (Or.inl ⟨by kernel_rfl, ?_⟩) HL_ ?_
  · rintro Wl ⟨s0, s1, s2, s3, s4, s5, s6, s7, s8, s9, s10, s11, s12⟩
    go_simp
  simp only [Act.put, List.getElem_toArray, List.getElem_cons_succ, List.getElem_cons_zero, List.setIfInBounds_toArray, List.set_cons_zero, List.set_cons_succ]
  refine wpAnyH_take (i := 4) (v := .pointer (some ⟨w.heap.size, 7, none⟩)) rfl (by kernel_rfl) (by kernel_rfl) (by kernel_rfl) (fun _ _ _ h => h) (Or.inl ⟨by kernel_rfl, ?_⟩) HL_ ?_
  · rintro Wl ⟨s0, s1, s2, s3, s4, s5, s6, s7, s8, s9, s10, s11, s12⟩
    go_simp
  simp only [Act.put, List.getElem_toArray, List.getElem_cons_succ, List.getElem_cons_zero, List.setIfInBounds_toArray, List.set_cons_zero, List.set_cons_succ]
  refine wpAnyH_take (i := 5) (v := .int .i64 (k : Int)) rfl (by kernel_rfl) (by kernel_rfl) (by kernel_rfl) (fun _ _ _ h => h) (Or.inl ⟨by kernel_rfl, ?_⟩) HL_ ?_
  · rintro Wl ⟨s0, s1, s2, s3, s4, s5, s6, s7, s8, s9, s10, s11, s12⟩
    go_simp
  simp only [Act.put, List.getElem_toArray, List.getElem_cons_succ, List.getElem_cons_zero, List.setIfInBounds_toArray, List.set_cons_zero, List.set_cons_succ]
  refine wpAnyH_take (i := 6) (v := .pointer (some ⟨b0, o0 + k * 3, none⟩)) rfl (by kernel_rfl) (by kernel_rfl) (by kernel_rfl) (fun _ _ _ h => h) (Or.inl ⟨by kernel_rfl, ?_⟩) HL_ ?_
  · rintro Wl ⟨s0, s1, s2, s3, s4, s5, s6, s7, s8, s9, s10, s11, s12⟩
    go_simp
  simp only [Act.put, List.getElem_toArray, List.getElem_cons_succ, List.getElem_cons_zero, List.setIfInBounds_toArray, List.set_cons_zero, List.set_cons_succ]
  refine wpAnyH_take (i := 7) (v := .agg #[.slice uA ux.length uC, .int .i64 ul, .int .i64 uh]) rfl (by kernel_rfl) (by kernel_rfl) (by kernel_rfl) (fun _ _ _ h => h) (Or.inl ⟨by kernel_rfl, ?_⟩) HL_ ?_
  · rintro Wl ⟨s0, s1, s2, s3, s4, s5, s6, s7, s8, s9, s10, s11, s12⟩
    go_simp
  simp only [Act.put, List.getElem_toArray, List.getElem_cons_succ, List.getElem_cons_zero, List.setIfInBounds_toArray, List.set_cons_zero, List.set_cons_succ]
  refine wpAnyH_ready (rs := [8, 12]) (by kernel_rfl) (by simp) ?_
  refine AllReadyH.cons (o := _) rfl (fun K hK => ?_) (AllReadyH.cons (o := _) rfl (fun K hK => ?_) AllReadyH.nil)
  · go_simp
    with_reducible refine (HC.out _ (HS.out.below (Below.refl _ _).drew)).mono ?_
    rintro e_ w2 ⟨rfl, hb⟩
    replace hb : Below w1.heap.size w1 w2 := undrew_b hb
    refine hK.out _ _ (kp hb) fun HL_ => ?_
    clear hK K
    refine wpAnyH_take (i := 9) (v := .tuple #[.agg #[.int .i64 ra, .int .i64 rb, .int .i64 rc, .int .i64 rd], .bool h]) rfl (by kernel_rfl) (by kernel_rfl) (by kernel_rfl) (fun _ _ _ h => h) (Or.inl ⟨by kernel_rfl, ?_⟩) HL_ ?_
    · rintro Wl ⟨s0, s1, s2, s3, s4, s5, s6, s7, s8, s9, s10, s11, s12⟩
      go_simp
    simp only [Act.put, List.getElem_toArray, List.getElem_cons_succ, List.getElem_cons_zero, List.setIfInBounds_toArray, List.set_cons_zero, List.set_cons_succ]
    refine wpAnyH_take (i := 10) (v := .agg #[.int .i64 ra, .int .i64 rb, .int .i64 rc, .int .i64 rd]) rfl (by kernel_rfl) (by kernel_rfl) (by kernel_rfl) (fun _ _ _ h => h) (Or.inl ⟨by kernel_rfl, ?_⟩) HL_ ?_
    · rintro Wl ⟨s0, s1, s2, s3, s4, s5, s6, s7, s8, s9, s10, s11, s12⟩
      go_simp
    simp only [Act.put, List.getElem_toArray, List.getElem_cons_succ, List.getElem_cons_zero, List.setIfInBounds_toArray, List.set_cons_zero, List.set_cons_succ]
    refine wpAnyH_take (i := 11) (v := .bool h) rfl (by kernel_rfl) (by kernel_rfl) (by kernel_rfl) (fun _ _ _ h => h) (Or.inl ⟨by kernel_rfl, ?_⟩) HL_ ?_
    · rintro Wl ⟨s0, s1, s2, s3, s4, s5, s6, s7, s8, s9, s10, s11, s12⟩
      go_simp
    simp only [Act.put, List.getElem_toArray, List.getElem_cons_succ, List.getElem_cons_zero, List.setIfInBounds_toArray, List.set_cons_zero, List.set_cons_succ]
    refine wpAnyH_ready (rs := [12]) (by kernel_rfl) (by simp) ?_
    refine AllReadyH.cons (o := _) rfl (fun K hK => ?_) AllReadyH.nil
    go_simp
    have hb4 := on_below hb (below_new w2 (.cells #[.int .i64 0, .int .i64 0, .int .i64 0, .int .i64 0] 152))
    have hz : (w2.alloc (.cells #[.int .i64 0, .int .i64 0, .int .i64 0, .int .i64 0] 152)).heap[w2.heap.size]? = some (.cells #[.int .i64 0, .int .i64 0, .int .i64 0, .int .i64 0] 152 (0, 0)) := World.alloc_heap_new _ _
    have hg5 : w1.heap.size ≤ w2.heap.size := hb.size
    refine hK.out _ _ (kp hb4) fun HL_ => ?_
    clear hK K hb
    generalize w2.alloc (.cells #[.int .i64 0, .int .i64 0, .int .i64 0, .int .i64 0] 152) = w4 at *
    generalize w2.heap.size = g5 at *
    obtain ⟨x0, x1, x2, x3⟩ := cells4 hz
    have f0 := froz4 hz 0
    have f1 := froz4 hz 1
    have f2 := froz4 hz 2
    have f3 := froz4 hz 3
    have hb5 : Below w1.heap.size w1 ((((w4.setCell ⟨g5, 0, none⟩ (.int .i64 ra)).setCell ⟨g5, 1, none⟩ (.int .i64 rb)).setCell ⟨g5, 2, none⟩ (.int .i64 rc)).setCell ⟨g5, 3, none⟩ (.int .i64 rd)) := (((hb4.setCell hg5 _).setCell hg5 _).setCell hg5 _).setCell hg5 _
    have hz5 : ((((w4.setCell ⟨g5, 0, none⟩ (.int .i64 ra)).setCell ⟨g5, 1, none⟩ (.int .i64 rb)).setCell ⟨g5, 2, none⟩ (.int .i64 rc)).setCell ⟨g5, 3, none⟩ (.int .i64 rd)).heap[g5]? = some (.cells #[.int .i64 ra, .int .i64 rb, .int .i64 rc, .int .i64 rd] 152 (0, 0)) := set_cells (set_cells (set_cells (set_cells hz 0 _) 1 _) 2 _) 3 _
    refine wpAnyH_ready (rs := [13]) (by kernel_rfl) (by simp) ?_
    refine AllReadyH.cons (o := _) rfl (fun K hK => ?_) AllReadyH.nil
    go_simp
    refine hK.out _ _ (kp hb5) fun HL_ => ?_
    clear hK K x0 x1 x2 x3 f0 f1 f2 f3 hz hb4
    generalize (((w4.setCell ⟨g5, 0, none⟩ (.int .i64 ra)).setCell ⟨g5, 1, none⟩ (.int .i64 rb)).setCell ⟨g5, 2, none⟩ (.int .i64 rc)).setCell ⟨g5, 3, none⟩ (.int .i64 rd) = w5 at *
    refine wpAnyH_take (i := 14) (v := .bool h) rfl (by kernel_rfl) (by kernel_rfl) (by kernel_rfl) (fun _ _ _ h => h) (Or.inl ⟨by kernel_rfl, ?_⟩) HL_ ?_
    · rintro Wl ⟨s0, s1, s2, s3, s4, s5, s6, s7, s8, s9, s10, s11, s12⟩
      go_simp
    simp only [Act.put, List.getElem_toArray, List.getElem_cons_succ, List.getElem_cons_zero, List.setIfInBounds_toArray, List.set_cons_zero, List.set_cons_succ]
    refine wpAnyH_done (by kernel_rfl) ?_ _
    have q0 := keepc hb5 p8
    have q1 := keepc hb5 p9
    obtain ⟨x0, x1, x2, x3⟩ := cells4 hz5
    replace HB := Lib.hid (on_below HB.out hb5)
    have HR := Lib.hid hrr
    clear HL_ kp p0 p1 p2 p3 p4 p5 p6 p7 p8 p9 m0 m1 m2 hb5 hz5 hrr
    cases h
    · have hr := HR.out
      rw [Bool.false_and] at hr
      subst hr
      clear HR HH
      go_wp2_with fail
      go_ret
      exact ⟨rfl, HB.out⟩
    · have hr := HR.out
      rw [Bool.true_and] at hr
      rw [hr] at HH
      clear HR hr
      go_wp2_with fail
      with_reducible refine (HH.out _).mono ?_
      rintro e_ w6 ⟨rfl, hb⟩
      replace HB := Lib.hid (on_below HB.out hb)
      clear hb HH
      go_wp2_with fail
      go_ret
      exact ⟨rfl, HB.out⟩
  · go_simp
    have hb : Below w1.heap.size w1 (w1.alloc (.cells #[.int .i64 0, .int .i64 0, .int .i64 0, .int .i64 0] 152)).drew := (below_new w1 (.cells #[.int .i64 0, .int .i64 0, .int .i64 0, .int .i64 0] 152)).drew
    have hz : (w1.alloc (.cells #[.int .i64 0, .int .i64 0, .int .i64 0, .int .i64 0] 152)).drew.heap[w1.heap.size]? = some (.cells #[.int .i64 0, .int .i64 0, .int .i64 0, .int .i64 0] 152 (0, 0)) := World.alloc_heap_new _ _
    refine hK.out _ _ (kp hb) fun HL_ => ?_
    clear hK K
    generalize (w1.alloc (.cells #[.int .i64 0, .int .i64 0, .int .i64 0, .int .i64 0] 152)).drew = w2 at *
    refine wpAnyH_ready (rs := [8]) (by kernel_rfl) (by simp) ?_
    refine AllReadyH.cons (o := _) rfl (fun K hK => ?_) AllReadyH.nil
    go_simp
    with_reducible refine (HC.out _ (HS.out.below hb)).mono ?_
    rintro e_ w4 ⟨rfl, hb4⟩
    replace hz := blk_on hz hb4
    replace hb4 := on_below hb hb4
    refine hK.out _ _ (kp hb4) fun HL_ => ?_
    clear hK K hb
    obtain ⟨g5, hgg, hg5⟩ : ∃ g, w1.heap.size = g ∧ w1.heap.size ≤ g := ⟨_, rfl, Nat.le_refl _⟩
    rw [hgg] at hz ⊢
    clear hgg
    refine wpAnyH_take (i := 9) (v := .tuple #[.agg #[.int .i64 ra, .int .i64 rb, .int .i64 rc, .int .i64 rd], .bool h]) rfl (by kernel_rfl) (by kernel_rfl) (by kernel_rfl) (fun _ _ _ h => h) (Or.inl ⟨by kernel_rfl, ?_⟩) HL_ ?_
    · rintro Wl ⟨s0, s1, s2, s3, s4, s5, s6, s7, s8, s9, s10, s11, s12⟩
      go_simp
    simp only [Act.put, List.getElem_toArray, List.getElem_cons_succ, List.getElem_cons_zero, List.setIfInBounds_toArray, List.set_cons_zero, List.set_cons_succ]
    refine wpAnyH_take (i := 10) (v := .agg #[.int .i64 ra, .int .i64 rb, .int .i64 rc, .int .i64 rd]) rfl (by kernel_rfl) (by kernel_rfl) (by kernel_rfl) (fun _ _ _ h => h) (Or.inl ⟨by kernel_rfl, ?_⟩) HL_ ?_
    · rintro Wl ⟨s0, s1, s2, s3, s4, s5, s6, s7, s8, s9, s10, s11, s12⟩
      go_simp
    simp only [Act.put, List.getElem_toArray, List.getElem_cons_succ, List.getElem_cons_zero, List.setIfInBounds_toArray, List.set_cons_zero, List.set_cons_succ]
    refine wpAnyH_take (i := 11) (v := .bool h) rfl (by kernel_rfl) (by kernel_rfl) (by kernel_rfl) (fun _ _ _ h => h) (Or.inl ⟨by kernel_rfl, ?_⟩) HL_ ?_
    · rintro Wl ⟨s0, s1, s2, s3, s4, s5, s6, s7, s8, s9, s10, s11, s12⟩
      go_simp
    simp only [Act.put, List.getElem_toArray, List.getElem_cons_succ, List.getElem_cons_zero, List.setIfInBounds_toArray, List.set_cons_zero, List.set_cons_succ]
    obtain ⟨x0, x1, x2, x3⟩ := cells4 hz
    have f0 := froz4 hz 0
    have f1 := froz4 hz 1
    have f2 := froz4 hz 2
    have f3 := froz4 hz 3
    have hb5 : Below w1.heap.size w1 ((((w4.setCell ⟨g5, 0, none⟩ (.int .i64 ra)).setCell ⟨g5, 1, none⟩ (.int .i64 rb)).setCell ⟨g5, 2, none⟩ (.int .i64 rc)).setCell ⟨g5, 3, none⟩ (.int .i64 rd)) := (((hb4.setCell hg5 _).setCell hg5 _).setCell hg5 _).setCell hg5 _
    have hz5 : ((((w4.setCell ⟨g5, 0, none⟩ (.int .i64 ra)).setCell ⟨g5, 1, none⟩ (.int .i64 rb)).setCell ⟨g5, 2, none⟩ (.int .i64 rc)).setCell ⟨g5, 3, none⟩ (.int .i64 rd)).heap[g5]? = some (.cells #[.int .i64 ra, .int .i64 rb, .int .i64 rc, .int .i64 rd] 152 (0, 0)) := set_cells (set_cells (set_cells (set_cells hz 0 _) 1 _) 2 _) 3 _
    refine wpAnyH_ready (rs := [13]) (by kernel_rfl) (by simp) ?_
    refine AllReadyH.cons (o := _) rfl (fun K hK => ?_) AllReadyH.nil
    go_simp
    refine hK.out _ _ (kp hb5) fun HL_ => ?_
    clear hK K x0 x1 x2 x3 f0 f1 f2 f3 hz hb4
    generalize (((w4.setCell ⟨g5, 0, none⟩ (.int .i64 ra)).setCell ⟨g5, 1, none⟩ (.int .i64 rb)).setCell ⟨g5, 2, none⟩ (.int .i64 rc)).setCell ⟨g5, 3, none⟩ (.int .i64 rd) = w5 at *
    refine wpAnyH_take (i := 14) (v := .bool h) rfl (by kernel_rfl) (by kernel_rfl) (by kernel_rfl) (fun _ _ _ h => h) (Or.inl ⟨by kernel_rfl, ?_⟩) HL_ ?_
    · rintro Wl ⟨s0, s1, s2, s3, s4, s5, s6, s7, s8, s9, s10, s11, s12⟩
      go_simp
    simp only [Act.put, List.getElem_toArray, List.getElem_cons_succ, List.getElem_cons_zero, List.setIfInBounds_toArray, List.set_cons_zero, List.set_cons_succ]
    refine wpAnyH_done (by kernel_rfl) ?_ _
    have q0 := keepc hb5 p8
    have q1 := keepc hb5 p9
    obtain ⟨x0, x1, x2, x3⟩ := cells4 hz5
    replace HB := Lib.hid (on_below HB.out hb5)
    have HR := Lib.hid hrr
    clear HL_ kp p0 p1 p2 p3 p4 p5 p6 p7 p8 p9 m0 m1 m2 hb5 hz5 hrr
    cases h
    · have hr := HR.out
      rw [Bool.false_and] at hr
      subst hr
      clear HR HH
      go_wp2_with fail
      go_ret
      exact ⟨rfl, HB.out⟩
    · have hr := HR.out
      rw [Bool.true_and] at hr
      rw [hr] at HH
      clear HR hr
      go_wp2_with fail
      with_reducible refine (HH.out _).mono ?_
      rintro e_ w6 ⟨rfl, hb⟩
      replace HB := Lib.hid (on_below HB.out hb)
      clear hb HH
      go_wp2_with fail
      go_ret
      exact ⟨rfl, HB.out⟩
theorem true_is (ex ey ez x y z : Int) (l : Q4) (ic : I64 l.c) (id_ : I64 l.d) (B : Option Addr) (D : Nat) (L : List Bv) (h5 : L.length ≤ 9223372036854775806) (hw : Wy ex ey ez x y z) (hbd : Bds L) (r : Bool) (hr : r = true ↔ Tru ex ey ez x y z L l) (w : World) (hm : BdS w B L) :
    Calls Try.prog 64 #[.agg #[.int .i64 ex, .int .i64 ey, .int .i64 ez, .int .i64 x, .int .i64 y, .int .i64 z, .int .i64 (l.a), .int .i64 (l.b), .int .i64 (l.c), .int .i64 (l.d)], .slice B L.length D] w fun e_ w' => e_ = .returned (.bool r) ∧ Below w.heap.size w w' := by
  obtain ⟨a, b, c, d⟩ := l
  by_cases h1 : b = -1
  · refine true_0 ex ey ez x y z a b c d B D L h5 hw hbd h1 r ?_ w hm
    cases r
    · refine decide_eq_false fun e => ?_
      have := hr.2 (Or.inl ⟨h1, e⟩)
      cases this
    · rcases hr.1 rfl with ⟨_, e⟩ | ⟨k, _, e, _⟩
      · exact decide_eq_true e
      · exact absurd e (by show ¬ b = (k : Int); omega)
  · by_cases h2 : b < 0
    · obtain rfl : false = r := false_of fun e => by
        rcases hr.1 e with ⟨e, _⟩ | ⟨k, _, e, _⟩
        · exact h1 e
        · replace e : b = (k : Int) := e
          omega
      exact true_1 ex ey ez x y z a b c d B D L h5 hw hbd h1 h2 w
    · by_cases h3 : (L.length : Int) ≤ b
      · obtain rfl : false = r := false_of fun e => by
          rcases hr.1 e with ⟨e, _⟩ | ⟨k, hk, e, _⟩
          · exact h1 e
          · replace e : b = (k : Int) := e
            omega
        exact true_2 ex ey ez x y z a b c d B D L h5 hw hbd (by omega) h3 w
      · obtain ⟨k, rfl⟩ := Int.eq_ofNat_of_zero_le (show 0 ≤ b by omega)
        refine true_3 ex ey ez x y z a c d B D L h5 hw hbd k (by omega) ic id_ r ?_ w hm
        rw [hr]
        constructor
        · rintro (⟨e, _⟩ | ⟨k', _, e, h⟩)
          · exact absurd e h1
          · obtain rfl : k = k' := by have e : (k : Int) = k' := e; omega
            exact h
        · intro h
          exact Or.inr ⟨k, by omega, rfl, h⟩
end Go.Proofs.Ytjjimbaogpmbmaa

namespace Go.Proofs.Ytjjimbaogpmbmaa
open Go.RowKit Go.Sort
open Go.RowKit (Below)
set_option linter.unusedVariables false
set_option linter.unusedSimpArgs false
attribute [local go_sem] Oper.semAt_some

theorem chk_enter (args : Array Value) (W : World) : (callFunc 63 args).run Try.prog W = .ok (.enter 63 args) W := by simp [go_sem]
/-- The numbers of lines fit. -/
def I4 (N : List Q4) : Prop := ∀ k, k < N.length → I64 (gd4 N k).c ∧ I64 (gd4 N k).d
set_option maxRecDepth 100000 in
set_option maxHeartbeats 4000000 in
theorem wrong_is (ex ey ez a b c d lb lc ld : Int) (k : Nat) (T : List Q4) (A : Option Addr) (C : Nat) (ht : T.length ≤ 9223372036854775807) (hk : k < T.length) (hT : gd4 T k = ⟨a, b, c, d⟩) (ic : I64 lc) (id_ : I64 ld) (B : Option Addr) (D : Nat) (L : List Bv) (h5 : L.length ≤ 9223372036854775806) (hw : Wy ex ey ez a b c) (hbd : Bds L) (ge gt gb : Nat) (r : Bool) (hr : r = true ↔ Tru ex ey ez a b c L ⟨k, lb, lc, ld⟩) (w : World) (c0 : w.cell? ⟨ge, 0, none⟩ = some (.int .i64 ex)) (c1 : w.cell? ⟨ge, 1, none⟩ = some (.int .i64 ey)) (c2 : w.cell? ⟨ge, 2, none⟩ = some (.int .i64 ez)) (t0 : w.cell? ⟨gt, 0, none⟩ = some (.slice A T.length C)) (b0 : w.cell? ⟨gb, 0, none⟩ = some (.slice B L.length D)) (hl : S4 w A T) (hm : BdS w B L) :
    Calls Try.prog 63 #[.agg #[.int .i64 ((k : Int)), .int .i64 lb, .int .i64 lc, .int .i64 ld], .pointer (some ⟨ge, 0, none⟩), .pointer (some ⟨gt, 0, none⟩), .pointer (some ⟨gb, 0, none⟩)] w fun e_ w' => e_ = .returned (.bool (!r)) ∧ Below w.heap.size w w' := by
  have HC := Lib.hid (fun W (h : BdS W B L) => true_is ex ey ez a b c ⟨k, lb, lc, ld⟩ ic id_ B D L h5 hw hbd r hr W h)
  clear hr hw hbd ic id_
  have HM := Lib.hid hm
  clear hm
  obtain ⟨b1, o1, rfl, e0, e1, e2, e3⟩ := hl k hk
  rw [hT] at e0 e1 e2 e3
  dsimp only at e0 e1 e2 e3
  have e4 : (k : Int) < T.length := by omega
  have p0 : World.cell? (w.alloc (.cells #[.int .i64 ((k : Int)), .int .i64 lb, .int .i64 lc, .int .i64 ld] 70)) ⟨w.heap.size, 0, none⟩ = some (.int .i64 ((k : Int))) := by simp [go_sem]
  have p1 : World.cell? (w.alloc (.cells #[.int .i64 ((k : Int)), .int .i64 lb, .int .i64 lc, .int .i64 ld] 70)) ⟨w.heap.size, 1, none⟩ = some (.int .i64 lb) := by simp [go_sem]
  have p2 : World.cell? (w.alloc (.cells #[.int .i64 ((k : Int)), .int .i64 lb, .int .i64 lc, .int .i64 ld] 70)) ⟨w.heap.size, 2, none⟩ = some (.int .i64 lc) := by simp [go_sem]
  have p3 : World.cell? (w.alloc (.cells #[.int .i64 ((k : Int)), .int .i64 lb, .int .i64 lc, .int .i64 ld] 70)) ⟨w.heap.size, 3, none⟩ = some (.int .i64 ld) := by simp [go_sem]
  have lp : w.heap.size < (w.alloc (.cells #[.int .i64 ((k : Int)), .int .i64 lb, .int .i64 lc, .int .i64 ld] 70)).heap.size := by simp <;> omega
  have HB := Lib.hid (show Below w.heap.size w (w.alloc (.cells #[.int .i64 ((k : Int)), .int .i64 lb, .int .i64 lc, .int .i64 ld] 70)) from ((Below.refl _ _).alloc (by simp <;> omega) _))
  go_enter Try.func63, Try.ntmps63
  go_upto_region 1 with fail
  generalize w.alloc (.cells #[.int .i64 ((k : Int)), .int .i64 lb, .int .i64 lc, .int .i64 ld] 70) = w1 at *
  replace HM := Lib.hid (HM.out.below HB.out)
  replace c0 := keepc HB.out c0
  replace c1 := keepc HB.out c1
  replace c2 := keepc HB.out c2
  replace t0 := keepc HB.out t0
  replace b0 := keepc HB.out b0
  replace e0 := keepc HB.out e0
  replace e1 := keepc HB.out e1
  replace e2 := keepc HB.out e2
  go_wp2_with fail
  have kp : ∀ {W : World}, Below w1.heap.size w1 W → W.cell? ⟨ge, 0, none⟩ = some (.int .i64 ex) ∧ W.cell? ⟨ge, 1, none⟩ = some (.int .i64 ey) ∧ W.cell? ⟨ge, 2, none⟩ = some (.int .i64 ez) ∧ W.cell? ⟨gt, 0, none⟩ = some (.slice (some ⟨b1, o1, none⟩) T.length C) ∧ W.cell? ⟨gb, 0, none⟩ = some (.slice B L.length D) ∧ W.cell? ⟨b1, o1 + k * 4, none⟩ = some (.int .i64 a) ∧ W.cell? ⟨b1, o1 + k * 4 + 1, none⟩ = some (.int .i64 b) ∧ W.cell? ⟨b1, o1 + k * 4 + 2, none⟩ = some (.int .i64 c) ∧ W.cell? ⟨w.heap.size, 0, none⟩ = some (.int .i64 (k : Int)) ∧ W.cell? ⟨w.heap.size, 1, none⟩ = some (.int .i64 lb) ∧ W.cell? ⟨w.heap.size, 2, none⟩ = some (.int .i64 lc) ∧ W.cell? ⟨w.heap.size, 3, none⟩ = some (.int .i64 ld) ∧ Below w1.heap.size w1 W := fun h => ⟨keepc h c0, keepc h c1, keepc h c2, keepc h t0, keepc h b0, keepc h e0, keepc h e1, keepc h e2, keepc h p0, keepc h p1, keepc h p2, keepc h p3, h⟩
  go_region_held3 (fun W => W.cell? ⟨ge, 0, none⟩ = some (.int .i64 ex) ∧ W.cell? ⟨ge, 1, none⟩ = some (.int .i64 ey) ∧ W.cell? ⟨ge, 2, none⟩ = some (.int .i64 ez) ∧ W.cell? ⟨gt, 0, none⟩ = some (.slice (some ⟨b1, o1, none⟩) T.length C) ∧ W.cell? ⟨gb, 0, none⟩ = some (.slice B L.length D) ∧ W.cell? ⟨b1, o1 + k * 4, none⟩ = some (.int .i64 a) ∧ W.cell? ⟨b1, o1 + k * 4 + 1, none⟩ = some (.int .i64 b) ∧ W.cell? ⟨b1, o1 + k * 4 + 2, none⟩ = some (.int .i64 c) ∧ W.cell? ⟨w.heap.size, 0, none⟩ = some (.int .i64 (k : Int)) ∧ W.cell? ⟨w.heap.size, 1, none⟩ = some (.int .i64 lb) ∧ W.cell? ⟨w.heap.size, 2, none⟩ = some (.int .i64 lc) ∧ W.cell? ⟨w.heap.size, 3, none⟩ = some (.int .i64 ld) ∧ Below w1.heap.size w1 W)
    (first | assumption | exact kp (Below.refl _ _).drew | (go_split_ands; refine kp ?_; (first | (refine on_below ?_ hb; assumption) | assumption)))
    (first | (go_at_call 64; (with_reducible refine (HC.out _ (HM.out.below ?_)).mono ?_); (first | exact (Below.refl _ _).drew | (go_split_ands; assumption)); rintro e' wh ⟨rfl, hb⟩))
  go_split_ands
  have hB : Below w1.heap.size w1 wh := by assumption
  go_wp2_with fail
  go_ret
  exact ⟨rfl, on_below HB.out hB⟩
set_option maxRecDepth 100000 in
set_option maxHeartbeats 2000000 in
theorem check_0 (ex ey ez : Int) (A : Option Addr) (C : Nat) (T : List Q4) (B : Option Addr) (D : Nat) (L : List Bv) (G : Option Addr) (H : Nat) (N : List Q4) (h4 : T.length ≤ 9223372036854775807) (h5 : L.length ≤ 9223372036854775807) (h6 : N.length ≤ 9223372036854775807) (E : Int) (hE : Wrg ex ey ez T L E) (h0 : E ≠ 0) (hs : T.length ≤ 60 → L.length ≤ 60 → Bsm L) (w : World) (hl : S4 w A T) (hm : BdS w B L) :
    Calls Try.prog 28 #[.agg #[.int .i64 ex, .int .i64 ey, .int .i64 ez], .slice A T.length C, .slice B L.length D, .slice G N.length H] w fun e_ w' => e_ = .returned (.tuple #[.bool false, .int .i64 E]) ∧ Below w.heap.size w w' := by
  have zz : (E != 0) = true := by simp [h0]
  have HE := Lib.hid (fun W (hl : S4 W A T) (hm : BdS W B L) => eof_is ex ey ez A C T B D L h4 h5 E hE (hs) W hl hm)
  have HL := Lib.hid hl
  clear hl
  have HM := Lib.hid hm
  clear hm
  have p0 : World.cell? (((w.alloc (.cells #[.int .i64 ex, .int .i64 ey, .int .i64 ez] 27)).alloc (.cells #[.slice A T.length C] 57)).alloc (.cells #[.slice B L.length D] 34)) ⟨w.heap.size, 0, none⟩ = some (.int .i64 ex) := by simp [go_sem]
  have p1 : World.cell? (((w.alloc (.cells #[.int .i64 ex, .int .i64 ey, .int .i64 ez] 27)).alloc (.cells #[.slice A T.length C] 57)).alloc (.cells #[.slice B L.length D] 34)) ⟨w.heap.size, 1, none⟩ = some (.int .i64 ey) := by simp [go_sem]
  have p2 : World.cell? (((w.alloc (.cells #[.int .i64 ex, .int .i64 ey, .int .i64 ez] 27)).alloc (.cells #[.slice A T.length C] 57)).alloc (.cells #[.slice B L.length D] 34)) ⟨w.heap.size, 2, none⟩ = some (.int .i64 ez) := by simp [go_sem]
  have lp : w.heap.size < (((w.alloc (.cells #[.int .i64 ex, .int .i64 ey, .int .i64 ez] 27)).alloc (.cells #[.slice A T.length C] 57)).alloc (.cells #[.slice B L.length D] 34)).heap.size := by simp <;> omega
  have t0 : World.cell? (((w.alloc (.cells #[.int .i64 ex, .int .i64 ey, .int .i64 ez] 27)).alloc (.cells #[.slice A T.length C] 57)).alloc (.cells #[.slice B L.length D] 34)) ⟨w.heap.size + 1, 0, none⟩ = some (.slice A T.length C) := by simp [go_sem]
  have lt : w.heap.size + 1 < (((w.alloc (.cells #[.int .i64 ex, .int .i64 ey, .int .i64 ez] 27)).alloc (.cells #[.slice A T.length C] 57)).alloc (.cells #[.slice B L.length D] 34)).heap.size := by simp <;> omega
  have b0 : World.cell? (((w.alloc (.cells #[.int .i64 ex, .int .i64 ey, .int .i64 ez] 27)).alloc (.cells #[.slice A T.length C] 57)).alloc (.cells #[.slice B L.length D] 34)) ⟨w.heap.size + 1 + 1, 0, none⟩ = some (.slice B L.length D) := by simp [go_sem]
  have lb : w.heap.size + 1 + 1 < (((w.alloc (.cells #[.int .i64 ex, .int .i64 ey, .int .i64 ez] 27)).alloc (.cells #[.slice A T.length C] 57)).alloc (.cells #[.slice B L.length D] 34)).heap.size := by simp <;> omega
  have HB := Lib.hid (show Below w.heap.size w (((w.alloc (.cells #[.int .i64 ex, .int .i64 ey, .int .i64 ez] 27)).alloc (.cells #[.slice A T.length C] 57)).alloc (.cells #[.slice B L.length D] 34)) from ((((Below.refl _ _).alloc (by simp <;> omega) _).alloc (by simp <;> omega) _).alloc (by simp <;> omega) _))
  go_enter Try.func28, Try.ntmps28
  go_upto_region 1 with fail
  generalize ((w.alloc (.cells #[.int .i64 ex, .int .i64 ey, .int .i64 ez] 27)).alloc (.cells #[.slice A T.length C] 57)).alloc (.cells #[.slice B L.length D] 34) = w1 at *
  replace HL := Lib.hid (HL.out.below HB.out)
  replace HM := Lib.hid (HM.out.below HB.out)
  clear hE hs
  go_wp2_with fail
  with_reducible refine (HE.out _ HL.out HM.out).mono ?_
  rintro e_ w2 ⟨rfl, hb⟩
  replace HB := Lib.hid (on_below HB.out hb)
  replace HL := Lib.hid (HL.out.below hb)
  replace HM := Lib.hid (HM.out.below hb)
  replace p0 := keepc hb p0
  replace p1 := keepc hb p1
  replace p2 := keepc hb p2
  replace t0 := keepc hb t0
  replace b0 := keepc hb b0
  replace lp := Nat.lt_of_lt_of_le lp hb.size
  replace lt := Nat.lt_of_lt_of_le lt hb.size
  replace lb := Nat.lt_of_lt_of_le lb hb.size
  clear hb
  go_wp2_with fail
  go_ret2
  exact ⟨rfl, HB.out⟩
set_option maxRecDepth 100000 in
set_option maxHeartbeats 4000000 in
theorem check_1 (ex ey ez : Int) (A : Option Addr) (C : Nat) (T : List Q4) (B : Option Addr) (D : Nat) (L : List Bv) (G : Option Addr) (H : Nat) (N : List Q4) (h4 : T.length ≤ 9223372036854775807) (h5 : L.length ≤ 9223372036854775807) (h6 : N.length ≤ 9223372036854775807) (hE : Wrg ex ey ez T L 0) (hN : ¬ Num N T.length) (w : World) (hl : S4 w A T) (hm : BdS w B L) (hg : S4 w G N) :
    Calls Try.prog 28 #[.agg #[.int .i64 ex, .int .i64 ey, .int .i64 ez], .slice A T.length C, .slice B L.length D, .slice G N.length H] w fun e_ w' => e_ = .returned (.tuple #[.bool false, .int .i64 0]) ∧ Below w.heap.size w w' := by
  obtain ⟨h1, h2, ht, hsu, hbd⟩ : T.length ≤ 60 ∧ L.length ≤ 60 ∧ Tok T ∧ Sut ex ey ez T ∧ Bds L := by
    rcases hE with ⟨_, h⟩ | ⟨_, _, _, h⟩ | ⟨h1, h2, h3, h4, h5, _⟩
    · cases h
    · cases h
    · exact ⟨h1, h2, h3, h4, h5⟩
  have HNU := Lib.hid (fun W (h : S4 W G N) => num_is G H N T.length h6 h4 false (by simp [hN]) W h)
  have zz : ((0 : Int) != 0) = false := rfl
  have HG := Lib.hid hg
  clear hg
  have hmf : ∀ (fn : Fn) (first cap : Array Value) (w : World), (Instr.makeFunc fn first cap).run Try.prog w = .ok (.func fn first cap) w := fun _ _ _ _ => rfl
  have HE := Lib.hid (fun W (hl : S4 W A T) (hm : BdS W B L) => eof_is ex ey ez A C T B D L h4 h5 0 hE (fun _ _ k hk => bok_len hbd hk) W hl hm)
  have HL := Lib.hid hl
  clear hl
  have HM := Lib.hid hm
  clear hm
  have p0 : World.cell? (((w.alloc (.cells #[.int .i64 ex, .int .i64 ey, .int .i64 ez] 27)).alloc (.cells #[.slice A T.length C] 57)).alloc (.cells #[.slice B L.length D] 34)) ⟨w.heap.size, 0, none⟩ = some (.int .i64 ex) := by simp [go_sem]
  have p1 : World.cell? (((w.alloc (.cells #[.int .i64 ex, .int .i64 ey, .int .i64 ez] 27)).alloc (.cells #[.slice A T.length C] 57)).alloc (.cells #[.slice B L.length D] 34)) ⟨w.heap.size, 1, none⟩ = some (.int .i64 ey) := by simp [go_sem]
  have p2 : World.cell? (((w.alloc (.cells #[.int .i64 ex, .int .i64 ey, .int .i64 ez] 27)).alloc (.cells #[.slice A T.length C] 57)).alloc (.cells #[.slice B L.length D] 34)) ⟨w.heap.size, 2, none⟩ = some (.int .i64 ez) := by simp [go_sem]
  have lp : w.heap.size < (((w.alloc (.cells #[.int .i64 ex, .int .i64 ey, .int .i64 ez] 27)).alloc (.cells #[.slice A T.length C] 57)).alloc (.cells #[.slice B L.length D] 34)).heap.size := by simp <;> omega
  have t0 : World.cell? (((w.alloc (.cells #[.int .i64 ex, .int .i64 ey, .int .i64 ez] 27)).alloc (.cells #[.slice A T.length C] 57)).alloc (.cells #[.slice B L.length D] 34)) ⟨w.heap.size + 1, 0, none⟩ = some (.slice A T.length C) := by simp [go_sem]
  have lt : w.heap.size + 1 < (((w.alloc (.cells #[.int .i64 ex, .int .i64 ey, .int .i64 ez] 27)).alloc (.cells #[.slice A T.length C] 57)).alloc (.cells #[.slice B L.length D] 34)).heap.size := by simp <;> omega
  have b0 : World.cell? (((w.alloc (.cells #[.int .i64 ex, .int .i64 ey, .int .i64 ez] 27)).alloc (.cells #[.slice A T.length C] 57)).alloc (.cells #[.slice B L.length D] 34)) ⟨w.heap.size + 1 + 1, 0, none⟩ = some (.slice B L.length D) := by simp [go_sem]
  have lb : w.heap.size + 1 + 1 < (((w.alloc (.cells #[.int .i64 ex, .int .i64 ey, .int .i64 ez] 27)).alloc (.cells #[.slice A T.length C] 57)).alloc (.cells #[.slice B L.length D] 34)).heap.size := by simp <;> omega
  have HB := Lib.hid (show Below w.heap.size w (((w.alloc (.cells #[.int .i64 ex, .int .i64 ey, .int .i64 ez] 27)).alloc (.cells #[.slice A T.length C] 57)).alloc (.cells #[.slice B L.length D] 34)) from ((((Below.refl _ _).alloc (by simp <;> omega) _).alloc (by simp <;> omega) _).alloc (by simp <;> omega) _))
  go_enter Try.func28, Try.ntmps28
  go_upto_region 1 with fail
  generalize ((w.alloc (.cells #[.int .i64 ex, .int .i64 ey, .int .i64 ez] 27)).alloc (.cells #[.slice A T.length C] 57)).alloc (.cells #[.slice B L.length D] 34) = w1 at *
  replace HL := Lib.hid (HL.out.below HB.out)
  replace HM := Lib.hid (HM.out.below HB.out)
  replace HG := Lib.hid (HG.out.below HB.out)
  clear hE hsu ht hbd hN
  go_wp2_with fail
  with_reducible refine (HE.out _ HL.out HM.out).mono ?_
  rintro e_ w2 ⟨rfl, hb⟩
  replace HB := Lib.hid (on_below HB.out hb)
  replace HL := Lib.hid (HL.out.below hb)
  replace HM := Lib.hid (HM.out.below hb)
  replace HG := Lib.hid (HG.out.below hb)
  replace p0 := keepc hb p0
  replace p1 := keepc hb p1
  replace p2 := keepc hb p2
  replace t0 := keepc hb t0
  replace b0 := keepc hb b0
  replace lp := Nat.lt_of_lt_of_le lp hb.size
  replace lt := Nat.lt_of_lt_of_le lt hb.size
  replace lb := Nat.lt_of_lt_of_le lb hb.size
  clear hb
  go_wp2_with fail
  with_reducible refine (HNU.out _ HG.out).mono ?_
  rintro e_ w3 ⟨rfl, hb⟩
  replace HB := Lib.hid (on_below HB.out hb)
  replace HL := Lib.hid (HL.out.below hb)
  replace HM := Lib.hid (HM.out.below hb)
  replace HG := Lib.hid (HG.out.below hb)
  replace p0 := keepc hb p0
  replace p1 := keepc hb p1
  replace p2 := keepc hb p2
  replace t0 := keepc hb t0
  replace b0 := keepc hb b0
  replace lp := Nat.lt_of_lt_of_le lp hb.size
  replace lt := Nat.lt_of_lt_of_le lt hb.size
  replace lb := Nat.lt_of_lt_of_le lb hb.size
  clear hb
  go_wp2_with fail
  go_ret2
  exact ⟨rfl, HB.out⟩
set_option maxRecDepth 100000 in
set_option maxHeartbeats 4000000 in
theorem check_2 (ex ey ez : Int) (A : Option Addr) (C : Nat) (T : List Q4) (B : Option Addr) (D : Nat) (L : List Bv) (G : Option Addr) (H : Nat) (N : List Q4) (h4 : T.length ≤ 9223372036854775807) (h5 : L.length ≤ 9223372036854775807) (h6 : N.length ≤ 9223372036854775807) (hE : Wrg ex ey ez T L 0) (hN : Num N T.length) (hI : I4 N) (r : Bool) (hr : r = true ↔ Rgt ex ey ez T L N) (w : World) (hl : S4 w A T) (hm : BdS w B L) (hg : S4 w G N) :
    Calls Try.prog 28 #[.agg #[.int .i64 ex, .int .i64 ey, .int .i64 ez], .slice A T.length C, .slice B L.length D, .slice G N.length H] w fun e_ w' => e_ = .returned (.tuple #[.bool r, .int .i64 0]) ∧ Below w.heap.size w w' := by
  obtain ⟨h1, h2, ht, hsu, hbd⟩ : T.length ≤ 60 ∧ L.length ≤ 60 ∧ Tok T ∧ Sut ex ey ez T ∧ Bds L := by
    rcases hE with ⟨_, h⟩ | ⟨_, _, _, h⟩ | ⟨h1, h2, h3, h4, h5, _⟩
    · cases h
    · cases h
    · exact ⟨h1, h2, h3, h4, h5⟩
  have HNU := Lib.hid (fun W (h : S4 W G N) => num_is G H N T.length h6 h4 true (by simp [hN]) W h)
  have zz : ((0 : Int) != 0) = false := rfl
  obtain ⟨p, hp⟩ : ∃ p : Nat → Bool, ∀ k, p k = false ↔ Tru ex ey ez (gd4 T k).a (gd4 T k).b (gd4 T k).c L (gd4 N k) := by
    classical
    exact ⟨fun k => !decide (Tru ex ey ez (gd4 T k).a (gd4 T k).b (gd4 T k).c L (gd4 N k)), fun k => by simp⟩
  have HF := Lib.hid (fun (ge gt gb : Nat) W (hg : S4 W G N) (c0 : W.cell? ⟨ge, 0, none⟩ = some (.int .i64 ex)) (c1 : W.cell? ⟨ge, 1, none⟩ = some (.int .i64 ey)) (c2 : W.cell? ⟨ge, 2, none⟩ = some (.int .i64 ez)) (t0 : W.cell? ⟨gt, 0, none⟩ = some (.slice A T.length C)) (b0 : W.cell? ⟨gb, 0, none⟩ = some (.slice B L.length D)) (hl : S4 W A T) (hm : BdS W B L) => lhas_is 63 #[.pointer (some ⟨ge, 0, none⟩), .pointer (some ⟨gt, 0, none⟩), .pointer (some ⟨gb, 0, none⟩)] chk_enter G H N p h6 W hg (fun k hk W1 hb => by
    have hk2 : k < T.length := by rw [← hN.1]; exact hk
    have ha := hN.2 k hk2
    have hw := wrong_is ex ey ez (gd4 T k).a (gd4 T k).b (gd4 T k).c (gd4 T k).d (gd4 N k).b (gd4 N k).c (gd4 N k).d k T A C h4 hk2 rfl (hI k hk).1 (hI k hk).2 B D L (by omega) (wy_of hsu ht hk2) hbd ge gt gb (!(p k)) (by rw [← ha]; show (!(p k)) = true ↔ Tru ex ey ez _ _ _ L (gd4 N k); rw [← hp k]; simp) W1 (keepc hb c0) (keepc hb c1) (keepc hb c2) (keepc hb t0) (keepc hb b0) (hl.below hb) (hm.below hb)
    rw [Bool.not_not] at hw
    rw [ha]
    simpa using hw) (!r) (by
    cases r
    · simp only [Bool.not_false, true_iff]
      apply Classical.byContradiction
      intro hn
      have : Rgt ex ey ez T L N := ⟨hN, fun k hk => (hp k).1 (not_true fun h => hn ⟨k, by rw [hN.1]; exact hk, h⟩)⟩
      exact absurd (hr.2 this) (by decide)
    · have := hr.1 rfl
      simp only [Bool.not_true, Bool.false_eq_true, false_iff]
      rintro ⟨k, hk, h⟩
      rw [(hp k).2 (this.2 k (by rw [← hN.1]; exact hk))] at h
      cases h))
  have HG := Lib.hid hg
  clear hg
  have hmf : ∀ (fn : Fn) (first cap : Array Value) (w : World), (Instr.makeFunc fn first cap).run Try.prog w = .ok (.func fn first cap) w := fun _ _ _ _ => rfl
  have HE := Lib.hid (fun W (hl : S4 W A T) (hm : BdS W B L) => eof_is ex ey ez A C T B D L h4 h5 0 hE (fun _ _ k hk => bok_len hbd hk) W hl hm)
  have HL := Lib.hid hl
  clear hl
  have HM := Lib.hid hm
  clear hm
  have p0 : World.cell? (((w.alloc (.cells #[.int .i64 ex, .int .i64 ey, .int .i64 ez] 27)).alloc (.cells #[.slice A T.length C] 57)).alloc (.cells #[.slice B L.length D] 34)) ⟨w.heap.size, 0, none⟩ = some (.int .i64 ex) := by simp [go_sem]
  have p1 : World.cell? (((w.alloc (.cells #[.int .i64 ex, .int .i64 ey, .int .i64 ez] 27)).alloc (.cells #[.slice A T.length C] 57)).alloc (.cells #[.slice B L.length D] 34)) ⟨w.heap.size, 1, none⟩ = some (.int .i64 ey) := by simp [go_sem]
  have p2 : World.cell? (((w.alloc (.cells #[.int .i64 ex, .int .i64 ey, .int .i64 ez] 27)).alloc (.cells #[.slice A T.length C] 57)).alloc (.cells #[.slice B L.length D] 34)) ⟨w.heap.size, 2, none⟩ = some (.int .i64 ez) := by simp [go_sem]
  have lp : w.heap.size < (((w.alloc (.cells #[.int .i64 ex, .int .i64 ey, .int .i64 ez] 27)).alloc (.cells #[.slice A T.length C] 57)).alloc (.cells #[.slice B L.length D] 34)).heap.size := by simp <;> omega
  have t0 : World.cell? (((w.alloc (.cells #[.int .i64 ex, .int .i64 ey, .int .i64 ez] 27)).alloc (.cells #[.slice A T.length C] 57)).alloc (.cells #[.slice B L.length D] 34)) ⟨w.heap.size + 1, 0, none⟩ = some (.slice A T.length C) := by simp [go_sem]
  have lt : w.heap.size + 1 < (((w.alloc (.cells #[.int .i64 ex, .int .i64 ey, .int .i64 ez] 27)).alloc (.cells #[.slice A T.length C] 57)).alloc (.cells #[.slice B L.length D] 34)).heap.size := by simp <;> omega
  have b0 : World.cell? (((w.alloc (.cells #[.int .i64 ex, .int .i64 ey, .int .i64 ez] 27)).alloc (.cells #[.slice A T.length C] 57)).alloc (.cells #[.slice B L.length D] 34)) ⟨w.heap.size + 1 + 1, 0, none⟩ = some (.slice B L.length D) := by simp [go_sem]
  have lb : w.heap.size + 1 + 1 < (((w.alloc (.cells #[.int .i64 ex, .int .i64 ey, .int .i64 ez] 27)).alloc (.cells #[.slice A T.length C] 57)).alloc (.cells #[.slice B L.length D] 34)).heap.size := by simp <;> omega
  have HB := Lib.hid (show Below w.heap.size w (((w.alloc (.cells #[.int .i64 ex, .int .i64 ey, .int .i64 ez] 27)).alloc (.cells #[.slice A T.length C] 57)).alloc (.cells #[.slice B L.length D] 34)) from ((((Below.refl _ _).alloc (by simp <;> omega) _).alloc (by simp <;> omega) _).alloc (by simp <;> omega) _))
  go_enter Try.func28, Try.ntmps28
  go_upto_region 1 with fail
  generalize ((w.alloc (.cells #[.int .i64 ex, .int .i64 ey, .int .i64 ez] 27)).alloc (.cells #[.slice A T.length C] 57)).alloc (.cells #[.slice B L.length D] 34) = w1 at *
  replace HL := Lib.hid (HL.out.below HB.out)
  replace HM := Lib.hid (HM.out.below HB.out)
  replace HG := Lib.hid (HG.out.below HB.out)
  clear hE hsu ht hbd hp hr hI hN
  go_wp2_with fail
  with_reducible refine (HE.out _ HL.out HM.out).mono ?_
  rintro e_ w2 ⟨rfl, hb⟩
  replace HB := Lib.hid (on_below HB.out hb)
  replace HL := Lib.hid (HL.out.below hb)
  replace HM := Lib.hid (HM.out.below hb)
  replace HG := Lib.hid (HG.out.below hb)
  replace p0 := keepc hb p0
  replace p1 := keepc hb p1
  replace p2 := keepc hb p2
  replace t0 := keepc hb t0
  replace b0 := keepc hb b0
  replace lp := Nat.lt_of_lt_of_le lp hb.size
  replace lt := Nat.lt_of_lt_of_le lt hb.size
  replace lb := Nat.lt_of_lt_of_le lb hb.size
  clear hb
  go_wp2_with fail
  with_reducible refine (HNU.out _ HG.out).mono ?_
  rintro e_ w3 ⟨rfl, hb⟩
  replace HB := Lib.hid (on_below HB.out hb)
  replace HL := Lib.hid (HL.out.below hb)
  replace HM := Lib.hid (HM.out.below hb)
  replace HG := Lib.hid (HG.out.below hb)
  replace p0 := keepc hb p0
  replace p1 := keepc hb p1
  replace p2 := keepc hb p2
  replace t0 := keepc hb t0
  replace b0 := keepc hb b0
  replace lp := Nat.lt_of_lt_of_le lp hb.size
  replace lt := Nat.lt_of_lt_of_le lt hb.size
  replace lb := Nat.lt_of_lt_of_le lb hb.size
  clear hb
  go_wp2_with fail
  with_reducible refine (HF.out _ _ _ _ HG.out p0 p1 p2 t0 b0 HL.out HM.out).mono ?_
  rintro e_ w4 ⟨rfl, hb⟩
  replace HB := Lib.hid (on_below HB.out hb)
  replace HL := Lib.hid (HL.out.below hb)
  replace HM := Lib.hid (HM.out.below hb)
  replace HG := Lib.hid (HG.out.below hb)
  replace p0 := keepc hb p0
  replace p1 := keepc hb p1
  replace p2 := keepc hb p2
  replace t0 := keepc hb t0
  replace b0 := keepc hb b0
  replace lp := Nat.lt_of_lt_of_le lp hb.size
  replace lt := Nat.lt_of_lt_of_le lt hb.size
  replace lb := Nat.lt_of_lt_of_le lb hb.size
  clear hb
  go_wp2_with fail
  go_ret2
  exact ⟨by cases r <;> rfl, HB.out⟩
/-- What Check answers. -/
def ChkR (ex ey ez : Int) (T : List Q4) (L : List Bv) (N : List Q4) (r : Bool) (E : Int) : Prop := Wrg ex ey ez T L E ∧ ((E ≠ 0 ∧ r = false) ∨ (E = 0 ∧ (r = true ↔ Rgt ex ey ez T L N)))
theorem check_is (ex ey ez : Int) (A : Option Addr) (C : Nat) (T : List Q4) (B : Option Addr) (D : Nat) (L : List Bv) (G : Option Addr) (H : Nat) (N : List Q4) (h4 : T.length ≤ 9223372036854775807) (h5 : L.length ≤ 9223372036854775807) (h6 : N.length ≤ 9223372036854775807) (hI : I4 N) (r : Bool) (E : Int) (hE : ChkR ex ey ez T L N r E) (hs : T.length ≤ 60 → L.length ≤ 60 → Bsm L) (w : World) (hl : S4 w A T) (hm : BdS w B L) (hg : S4 w G N) :
    Calls Try.prog 28 #[.agg #[.int .i64 ex, .int .i64 ey, .int .i64 ez], .slice A T.length C, .slice B L.length D, .slice G N.length H] w fun e_ w' => e_ = .returned (.tuple #[.bool r, .int .i64 E]) ∧ Below w.heap.size w w' := by
  obtain ⟨h, ⟨h0, rfl⟩ | ⟨rfl, hr⟩⟩ := hE
  · exact check_0 ex ey ez A C T B D L G H N h4 h5 h6 E h h0 hs w hl hm
  · by_cases hN : Num N T.length
    · exact check_2 ex ey ez A C T B D L G H N h4 h5 h6 h hN hI r hr w hl hm hg
    · obtain rfl : false = r := false_of fun e => hN (hr.1 e).1
      exact check_1 ex ey ez A C T B D L G H N h4 h5 h6 h hN w hl hm hg
end Go.Proofs.Ytjjimbaogpmbmaa

namespace Go.Proofs.Ytjjimbaogpmbmaa
open Go.RowKit Go.Sort
open Go.RowKit (Below)
set_option linter.unusedVariables false
set_option linter.unusedSimpArgs false
attribute [local go_sem] Oper.semAt_some

/-- The weights of the first k targets; of those that are seen. -/
def wsum (T : List Q4) : Nat → Int
  | 0 => 0
  | k + 1 => wsum T k + (gd4 T k).d
def ssum (T N : List Q4) : Nat → Int
  | 0 => 0
  | k + 1 => ssum T N k + if (gd4 N k).b = -1 then (gd4 T k).d else 0
theorem tok_d {T : List Q4} (h : Tok T) {k : Nat} (hk : k < T.length) : 1 ≤ (gd4 T k).d ∧ (gd4 T k).d ≤ 100 := by
  have := h.2 k hk
  unfold tgb at this
  simp only [Bool.or_eq_false_iff, decide_eq_false_iff_not] at this
  omega
theorem sum_bd {T N : List Q4} (h : Tok T) : ∀ k, k ≤ T.length → 0 ≤ ssum T N k ∧ ssum T N k ≤ wsum T k ∧ (k : Int) ≤ wsum T k ∧ wsum T k ≤ 100 * k
  | 0, _ => ⟨by simp [ssum], by simp [ssum, wsum], by simp [wsum], by simp [wsum]⟩
  | k + 1, hk => by
    obtain ⟨h1, h2, h3, h4⟩ := sum_bd (N := N) h k (by omega)
    have := tok_d h (show k < T.length by omega)
    unfold ssum wsum
    split <;> refine ⟨by omega, by omega, by omega, by omega⟩
/-- What Share answers. -/
def ShR (T N : List Q4) (n d E : Int) : Prop :=
  (60 < T.length ∧ E = 2 ∧ n = 0 ∧ d = 0) ∨ (T.length ≤ 60 ∧ ¬ (Tok T ∧ Num N T.length) ∧ E = 1 ∧ n = 0 ∧ d = 0) ∨
  (T.length ≤ 60 ∧ Tok T ∧ Num N T.length ∧ E = 0 ∧ mkN (ssum T N T.length) (wsum T T.length) = n ∧ mkD (ssum T N T.length) (wsum T T.length) = d)
set_option maxRecDepth 100000 in
set_option maxHeartbeats 2000000 in
theorem share_0 (A : Option Addr) (C : Nat) (T : List Q4) (G : Option Addr) (H : Nat) (N : List Q4) (h4 : T.length ≤ 9223372036854775807) (h6 : N.length ≤ 9223372036854775807) (h1 : 60 < T.length) (w : World) :
    Calls Try.prog 35 #[.slice A T.length C, .slice G N.length H] w fun e_ w' => e_ = .returned (.tuple #[.agg #[.int .i64 0, .int .i64 0], .int .i64 2]) ∧ Below w.heap.size w w' := by
  have o0 : World.cell? (w.alloc (.cells #[.int .i64 0, .int .i64 0] 39)) ⟨w.heap.size, 0, none⟩ = some (.int .i64 0) := by simp [go_sem]
  have fo0 : World.frozen? (w.alloc (.cells #[.int .i64 0, .int .i64 0] 39)) ⟨w.heap.size, 0, none⟩ = false := by simp [go_sem]
  have o1 : World.cell? (w.alloc (.cells #[.int .i64 0, .int .i64 0] 39)) ⟨w.heap.size, 1, none⟩ = some (.int .i64 0) := by simp [go_sem]
  have fo1 : World.frozen? (w.alloc (.cells #[.int .i64 0, .int .i64 0] 39)) ⟨w.heap.size, 1, none⟩ = false := by simp [go_sem]
  have lo : w.heap.size < (w.alloc (.cells #[.int .i64 0, .int .i64 0] 39)).heap.size := by simp <;> omega
  have HB := Lib.hid (show Below w.heap.size w (w.alloc (.cells #[.int .i64 0, .int .i64 0] 39)) from ((Below.refl _ _).alloc (by simp <;> omega) _))
  go_enter Try.func35, Try.ntmps35
  go_upto_region 1 with fail
  generalize w.alloc (.cells #[.int .i64 0, .int .i64 0] 39) = w1 at *
  go_wp2_with fail
  refine bodyPost_ret (v := .tuple #[.agg #[.int .i64 0, .int .i64 0], .int .i64 2]) (by simp [results, Try.results35, go_sem, o0, o1, lo]) rfl ⟨rfl, ?_⟩
  repeat (first | (with_reducible exact HB.out) | (refine Below.setCell ?_ (by first | exact Nat.le_refl _ | (simp; done) | (simp; omega) | omega) _) | (refine Below.alloc ?_ (by first | exact Nat.le_refl _ | (simp; done) | (simp; omega) | omega) _) | (refine Below.drew ?_) | (refine below_drewN' ?_ _))
set_option maxRecDepth 100000 in
set_option maxHeartbeats 2000000 in
theorem share_1 (A : Option Addr) (C : Nat) (T : List Q4) (G : Option Addr) (H : Nat) (N : List Q4) (h4 : T.length ≤ 9223372036854775807) (h6 : N.length ≤ 9223372036854775807) (h1 : T.length ≤ 60) (ht : ¬ Tok T) (w : World) (hl : S4 w A T) (hg : S4 w G N) :
    Calls Try.prog 35 #[.slice A T.length C, .slice G N.length H] w fun e_ w' => e_ = .returned (.tuple #[.agg #[.int .i64 0, .int .i64 0], .int .i64 1]) ∧ Below w.heap.size w w' := by
  have HC := Lib.hid (fun W (h : S4 W A T) => atg_is A C T h4 false (by simp [ht]) W h)
  skip
  have HL := Lib.hid hl
  clear hl
  have HG := Lib.hid hg
  clear hg
  have o0 : World.cell? (w.alloc (.cells #[.int .i64 0, .int .i64 0] 39)) ⟨w.heap.size, 0, none⟩ = some (.int .i64 0) := by simp [go_sem]
  have fo0 : World.frozen? (w.alloc (.cells #[.int .i64 0, .int .i64 0] 39)) ⟨w.heap.size, 0, none⟩ = false := by simp [go_sem]
  have o1 : World.cell? (w.alloc (.cells #[.int .i64 0, .int .i64 0] 39)) ⟨w.heap.size, 1, none⟩ = some (.int .i64 0) := by simp [go_sem]
  have fo1 : World.frozen? (w.alloc (.cells #[.int .i64 0, .int .i64 0] 39)) ⟨w.heap.size, 1, none⟩ = false := by simp [go_sem]
  have lo : w.heap.size < (w.alloc (.cells #[.int .i64 0, .int .i64 0] 39)).heap.size := by simp <;> omega
  have HB := Lib.hid (show Below w.heap.size w (w.alloc (.cells #[.int .i64 0, .int .i64 0] 39)) from ((Below.refl _ _).alloc (by simp <;> omega) _))
  go_enter Try.func35, Try.ntmps35
  go_upto_region 1 with fail
  generalize w.alloc (.cells #[.int .i64 0, .int .i64 0] 39) = w1 at *
  replace HL := Lib.hid (HL.out.below HB.out)
  replace HG := Lib.hid (HG.out.below HB.out)
  go_wp2_with fail
  with_reducible refine (HC.out _ HL.out).mono ?_
  rintro e_ w2 ⟨rfl, hb⟩
  replace HB := Lib.hid (on_below HB.out hb)
  replace HL := Lib.hid (HL.out.below hb)
  replace HG := Lib.hid (HG.out.below hb)
  replace o0 := keepc hb o0
  replace o1 := keepc hb o1
  replace fo0 := keepf hb lo fo0
  replace fo1 := keepf hb lo fo1
  replace lo := Nat.lt_of_lt_of_le lo hb.size
  clear hb
  go_wp2_with fail
  refine bodyPost_ret (v := .tuple #[.agg #[.int .i64 0, .int .i64 0], .int .i64 1]) (by simp [results, Try.results35, go_sem, o0, o1, lo]) rfl ⟨rfl, ?_⟩
  repeat (first | (with_reducible exact HB.out) | (refine Below.setCell ?_ (by first | exact Nat.le_refl _ | (simp; done) | (simp; omega) | omega) _) | (refine Below.alloc ?_ (by first | exact Nat.le_refl _ | (simp; done) | (simp; omega) | omega) _) | (refine Below.drew ?_) | (refine below_drewN' ?_ _))
set_option maxRecDepth 100000 in
set_option maxHeartbeats 2000000 in
theorem share_2 (A : Option Addr) (C : Nat) (T : List Q4) (G : Option Addr) (H : Nat) (N : List Q4) (h4 : T.length ≤ 9223372036854775807) (h6 : N.length ≤ 9223372036854775807) (h1 : T.length ≤ 60) (ht : Tok T) (hN : ¬ Num N T.length) (w : World) (hl : S4 w A T) (hg : S4 w G N) :
    Calls Try.prog 35 #[.slice A T.length C, .slice G N.length H] w fun e_ w' => e_ = .returned (.tuple #[.agg #[.int .i64 0, .int .i64 0], .int .i64 1]) ∧ Below w.heap.size w w' := by
  have HC := Lib.hid (fun W (h : S4 W A T) => atg_is A C T h4 true (by simp [ht]) W h)
  have HD := Lib.hid (fun W (h : S4 W G N) => num_is G H N T.length h6 h4 false (by simp [hN]) W h)
  have HL := Lib.hid hl
  clear hl
  have HG := Lib.hid hg
  clear hg
  have o0 : World.cell? (w.alloc (.cells #[.int .i64 0, .int .i64 0] 39)) ⟨w.heap.size, 0, none⟩ = some (.int .i64 0) := by simp [go_sem]
  have fo0 : World.frozen? (w.alloc (.cells #[.int .i64 0, .int .i64 0] 39)) ⟨w.heap.size, 0, none⟩ = false := by simp [go_sem]
  have o1 : World.cell? (w.alloc (.cells #[.int .i64 0, .int .i64 0] 39)) ⟨w.heap.size, 1, none⟩ = some (.int .i64 0) := by simp [go_sem]
  have fo1 : World.frozen? (w.alloc (.cells #[.int .i64 0, .int .i64 0] 39)) ⟨w.heap.size, 1, none⟩ = false := by simp [go_sem]
  have lo : w.heap.size < (w.alloc (.cells #[.int .i64 0, .int .i64 0] 39)).heap.size := by simp <;> omega
  have HB := Lib.hid (show Below w.heap.size w (w.alloc (.cells #[.int .i64 0, .int .i64 0] 39)) from ((Below.refl _ _).alloc (by simp <;> omega) _))
  go_enter Try.func35, Try.ntmps35
  go_upto_region 1 with fail
  generalize w.alloc (.cells #[.int .i64 0, .int .i64 0] 39) = w1 at *
  replace HL := Lib.hid (HL.out.below HB.out)
  replace HG := Lib.hid (HG.out.below HB.out)
  go_wp2_with fail
  with_reducible refine (HC.out _ HL.out).mono ?_
  rintro e_ w2 ⟨rfl, hb⟩
  replace HB := Lib.hid (on_below HB.out hb)
  replace HL := Lib.hid (HL.out.below hb)
  replace HG := Lib.hid (HG.out.below hb)
  replace o0 := keepc hb o0
  replace o1 := keepc hb o1
  replace fo0 := keepf hb lo fo0
  replace fo1 := keepf hb lo fo1
  replace lo := Nat.lt_of_lt_of_le lo hb.size
  clear hb
  go_wp2_with fail
  with_reducible refine (HD.out _ HG.out).mono ?_
  rintro e_ w3 ⟨rfl, hb⟩
  replace HB := Lib.hid (on_below HB.out hb)
  replace HL := Lib.hid (HL.out.below hb)
  replace HG := Lib.hid (HG.out.below hb)
  replace o0 := keepc hb o0
  replace o1 := keepc hb o1
  replace fo0 := keepf hb lo fo0
  replace fo1 := keepf hb lo fo1
  replace lo := Nat.lt_of_lt_of_le lo hb.size
  clear hb
  go_wp2_with fail
  refine bodyPost_ret (v := .tuple #[.agg #[.int .i64 0, .int .i64 0], .int .i64 1]) (by simp [results, Try.results35, go_sem, o0, o1, lo]) rfl ⟨rfl, ?_⟩
  repeat (first | (with_reducible exact HB.out) | (refine Below.setCell ?_ (by first | exact Nat.le_refl _ | (simp; done) | (simp; omega) | omega) _) | (refine Below.alloc ?_ (by first | exact Nat.le_refl _ | (simp; done) | (simp; omega) | omega) _) | (refine Below.drew ?_) | (refine below_drewN' ?_ _))
set_option maxRecDepth 100000 in
set_option maxHeartbeats 4000000 in
theorem share_3 (A : Option Addr) (C : Nat) (T : List Q4) (G : Option Addr) (H : Nat) (N : List Q4) (h4 : T.length ≤ 9223372036854775807) (h6 : N.length ≤ 9223372036854775807) (h1 : T.length ≤ 60) (ht : Tok T) (hN : Num N T.length) (n d : Int) (hn : mkN (ssum T N T.length) (wsum T T.length) = n) (hd : mkD (ssum T N T.length) (wsum T T.length) = d) (w : World) (hl : S4 w A T) (hg : S4 w G N) :
    Calls Try.prog 35 #[.slice A T.length C, .slice G N.length H] w fun e_ w' => e_ = .returned (.tuple #[.agg #[.int .i64 n, .int .i64 d], .int .i64 0]) ∧ Below w.heap.size w w' := by
  have HC := Lib.hid (fun W (h : S4 W A T) => atg_is A C T h4 true (by simp [ht]) W h)
  have HD := Lib.hid (fun W (h : S4 W G N) => num_is G H N T.length h6 h4 true (by simp [hN]) W h)
  have HM := Lib.hid (show ∀ W, Calls Try.prog 74 #[.int .i64 (ssum T N T.length), .int .i64 (wsum T T.length)] W fun e w' => e = .returned (.tuple #[.agg #[.int .i64 n, .int .i64 d], .int .i64 0]) ∧ Below W.heap.size W w' from fun W => by
    obtain ⟨b1, b2, b3, b4⟩ := sum_bd (N := N) ht T.length (Nat.le_refl _)
    have hp := ht.1
    have hm := make_any (ssum T N T.length) (wsum T T.length) W ⟨by omega, by omega⟩ ⟨by omega, by omega⟩
    rw [hn, hd, mk_ok (by omega) ⟨by omega, by omega⟩ ⟨by omega, by omega⟩] at hm
    exact hm)
  have HT := Lib.hid ht
  have HNl := Lib.hid hN.1
  clear ht hn hd hN
  have HL := Lib.hid hl
  clear hl
  have HG := Lib.hid hg
  clear hg
  have o0 : World.cell? (w.alloc (.cells #[.int .i64 0, .int .i64 0] 39)) ⟨w.heap.size, 0, none⟩ = some (.int .i64 0) := by simp [go_sem]
  have fo0 : World.frozen? (w.alloc (.cells #[.int .i64 0, .int .i64 0] 39)) ⟨w.heap.size, 0, none⟩ = false := by simp [go_sem]
  have o1 : World.cell? (w.alloc (.cells #[.int .i64 0, .int .i64 0] 39)) ⟨w.heap.size, 1, none⟩ = some (.int .i64 0) := by simp [go_sem]
  have fo1 : World.frozen? (w.alloc (.cells #[.int .i64 0, .int .i64 0] 39)) ⟨w.heap.size, 1, none⟩ = false := by simp [go_sem]
  have lo : w.heap.size < (w.alloc (.cells #[.int .i64 0, .int .i64 0] 39)).heap.size := by simp <;> omega
  have HB := Lib.hid (show Below w.heap.size w (w.alloc (.cells #[.int .i64 0, .int .i64 0] 39)) from ((Below.refl _ _).alloc (by simp <;> omega) _))
  go_enter Try.func35, Try.ntmps35
  go_upto_region 1 with fail
  generalize w.alloc (.cells #[.int .i64 0, .int .i64 0] 39) = w1 at *
  replace HL := Lib.hid (HL.out.below HB.out)
  replace HG := Lib.hid (HG.out.below HB.out)
  go_wp2_with fail
  with_reducible refine (HC.out _ HL.out).mono ?_
  rintro e_ w2 ⟨rfl, hb⟩
  replace HB := Lib.hid (on_below HB.out hb)
  replace HL := Lib.hid (HL.out.below hb)
  replace HG := Lib.hid (HG.out.below hb)
  replace o0 := keepc hb o0
  replace o1 := keepc hb o1
  replace fo0 := keepf hb lo fo0
  replace fo1 := keepf hb lo fo1
  replace lo := Nat.lt_of_lt_of_le lo hb.size
  clear hb
  go_wp2_with fail
  with_reducible refine (HD.out _ HG.out).mono ?_
  rintro e_ w3 ⟨rfl, hb⟩
  replace HB := Lib.hid (on_below HB.out hb)
  replace HL := Lib.hid (HL.out.below hb)
  replace HG := Lib.hid (HG.out.below hb)
  replace o0 := keepc hb o0
  replace o1 := keepc hb o1
  replace fo0 := keepf hb lo fo0
  replace fo1 := keepf hb lo fo1
  replace lo := Nat.lt_of_lt_of_le lo hb.size
  clear hb
  go_wp2_with fail
  go_loopw [6, 7, 27] (fun s a i wr => ∃ k : Nat, k ≤ T.length ∧ i = .int .i64 k ∧ s = .int .i64 (ssum T N k) ∧ a = .int .i64 (wsum T k) ∧ Below w3.heap.size w3 wr) (fun _ _ i _ => T.length - (intOf i).toNat)
  case atStart => exact ⟨0, Nat.zero_le _, rfl, rfl, rfl, Below.refl _ _⟩
  case round =>
    obtain ⟨k, hk, rfl, rfl, rfl, hW⟩ := hrel
    replace o0 := keepc hW o0
    replace o1 := keepc hW o1
    replace fo0 := keepf hW lo fo0
    replace fo1 := keepf hW lo fo1
    replace lo := Nat.lt_of_lt_of_le lo hW.size
    by_cases hlt : k < T.length
    · obtain ⟨b0, o0_, rfl, e0, e1, e2, e3⟩ := HL.out.below hW k hlt
      obtain ⟨b1, o1_, rfl, d0, d1, d2, d3⟩ := HG.out.below hW k (by rw [HNl.out]; exact hlt)
      have hsb := sum_bd (N := N) HT.out k hk
      have hsb2 := sum_bd (N := N) HT.out (k + 1) hlt
      have htd := tok_d HT.out hlt
      have e4 : (k : Int) < N.length := by have := HNl.out; omega
      have HW := Lib.hid (show wsum T (k + 1) = wsum T k + (gd4 T k).d from rfl)
      have HS := Lib.hid (show ssum T N (k + 1) = ssum T N k + if (gd4 N k).b = -1 then (gd4 T k).d else 0 from rfl)
      obtain ⟨b3, b4, b5, b6⟩ := hsb
      generalize hsk : ssum T N k = sk at *
      generalize hwk : wsum T k = wk at *
      clear hsk hwk hsb2
      generalize gd4 T k = u at *
      generalize gd4 N k = v at *
      obtain ⟨ua, ub, uc, ud⟩ := u
      obtain ⟨va, vb, vc, vd⟩ := v
      dsimp only at e0 e1 e2 e3 d0 d1 d2 d3 htd HW HS
      have wf0 : IntKind.i64.wrap (wk + ud) = wk + ud := IntWalk.i64_in _ ⟨by omega, by omega⟩
      have wf1 : IntKind.i64.wrap (sk + ud) = sk + ud := IntWalk.i64_in _ ⟨by omega, by omega⟩
      have wf2 : IntKind.i64.wrap ((k : Int) + 1) = (k : Int) + 1 := IntWalk.i64_in _ ⟨by omega, by omega⟩
      have wg0 : wrap64 (wk + ud) = wk + ud := IntWalk.wrap64_in _ ⟨by omega, by omega⟩
      have wg1 : wrap64 (sk + ud) = sk + ud := IntWalk.wrap64_in _ ⟨by omega, by omega⟩
      have wg2 : wrap64 ((k : Int) + 1) = (k : Int) + 1 := IntWalk.wrap64_in _ ⟨by omega, by omega⟩
      have ho := below_new wr (.cells #[.int .i64 ua, .int .i64 ub, .int .i64 uc, .int .i64 ud] 74)
      have n3 : World.cell? (wr.alloc (.cells #[.int .i64 ua, .int .i64 ub, .int .i64 uc, .int .i64 ud] 74)) ⟨wr.heap.size, 3, none⟩ = some (.int .i64 ud) := by simp [go_sem]
      have m1 := keepc ho d1
      have HB2 := Lib.hid (hW.trans (ho.mono hW.size))
      clear b3 b4 b5 b6 htd hW
      by_cases hs : vb = -1
      · have z1 : (vb == -1) = true := by rw [hs]; rfl
        rw [if_pos hs] at HS
        clear hs
        go_wp2_with fail
        go_roundw
        case rel => exact ⟨k + 1, hlt, int_of (by first | rfl | exact wf2 | exact wg2 | simp [wf2, wg2]), by rw [HS.out], by rw [HW.out], HB2.out⟩
        case measure => simp [intOf, wf2, wg2]; clear wf0 wf1 wf2 wg0 wg1 wg2 HB2; omega
      · have z1 : (vb == -1) = false := by rw [beq_eq_false_iff_ne]; exact hs
        rw [if_neg hs, Int.add_zero] at HS
        clear hs
        go_wp2_with fail
        go_roundw
        case rel => exact ⟨k + 1, hlt, int_of (by first | rfl | exact wf2 | exact wg2 | simp [wf2, wg2]), by rw [HS.out], by rw [HW.out], HB2.out⟩
        case measure => simp [intOf, wf2, wg2]; clear wf0 wf1 wf2 wg0 wg1 wg2 HB2; omega
    · have hke : k = T.length := by omega
      subst hke
      replace HB := Lib.hid (on_below HB.out hW)
      clear hW
      generalize ssum T N T.length = sk at *
      generalize wsum T T.length = wk at *
      go_wp2_with fail
      with_reducible refine (HM.out _).mono ?_
      rintro e_ w4 ⟨rfl, hb⟩
      replace o0 := keepc hb o0
      replace o1 := keepc hb o1
      replace fo0 := keepf hb lo fo0
      replace fo1 := keepf hb lo fo1
      replace lo := Nat.lt_of_lt_of_le lo hb.size
      replace HB := Lib.hid (on_below HB.out hb)
      clear hb
      go_wp2_with fail
      refine bodyPost_ret (v := .tuple #[.agg #[.int .i64 n, .int .i64 d], .int .i64 0]) (by simp [results, Try.results35, go_sem, o0, o1, lo]) rfl ⟨rfl, ?_⟩
      repeat (first | (with_reducible exact HB.out) | (refine Below.setCell ?_ (by first | exact Nat.le_refl _ | (simp; done) | (simp; omega) | omega) _) | (refine Below.alloc ?_ (by first | exact Nat.le_refl _ | (simp; done) | (simp; omega) | omega) _) | (refine Below.drew ?_) | (refine below_drewN' ?_ _))
theorem share_is (A : Option Addr) (C : Nat) (T : List Q4) (G : Option Addr) (H : Nat) (N : List Q4) (h4 : T.length ≤ 9223372036854775807) (h6 : N.length ≤ 9223372036854775807) (n d E : Int) (hE : ShR T N n d E) (w : World) (hl : S4 w A T) (hg : S4 w G N) :
    Calls Try.prog 35 #[.slice A T.length C, .slice G N.length H] w fun e_ w' => e_ = .returned (.tuple #[.agg #[.int .i64 n, .int .i64 d], .int .i64 E]) ∧ Below w.heap.size w w' := by
  rcases hE with ⟨h, rfl, rfl, rfl⟩ | ⟨h1, h, rfl, rfl, rfl⟩ | ⟨h1, ht, hN, rfl, hn, hd⟩
  · exact share_0 A C T G H N h4 h6 h w
  · by_cases ht : Tok T
    · exact share_2 A C T G H N h4 h6 h1 ht (fun hN => h ⟨ht, hN⟩) w hl hg
    · exact share_1 A C T G H N h4 h6 h1 ht w hl hg
  · exact share_3 A C T G H N h4 h6 h1 ht hN n d hn hd w hl hg
end Go.Proofs.Ytjjimbaogpmbmaa

namespace Go.Proofs.Ytjjimbaogpmbmaa
open Go.RowKit Go.Sort
open Go.RowKit (Below)
set_option linter.unusedVariables false
set_option linter.unusedSimpArgs false

theorem list4_eq {N M : List Q4} (hl : N.length = M.length) (h : ∀ j, j < N.length → gd4 N j = gd4 M j) : N = M := by
  apply List.ext_getElem hl
  intro i h1 h2
  have := h i h1
  rwa [gd4_at h1, gd4_at h2] at this
set_option maxRecDepth 100000 in
set_option maxHeartbeats 4000000 in
theorem qsames_is (A B : Option Addr) (C D : Nat) (N M : List Q4) (h1 : N.length ≤ 9223372036854775807) (h2 : M.length ≤ 9223372036854775807) (r : Bool) (hr : r = true ↔ N = M) (w : World) (hl : S4 w A N) (hm : S4 w B M) :
    Calls Try.prog 33 #[.slice A N.length C, .slice B M.length D] w fun e_ w' => e_ = .returned (.bool r) ∧ Below w.heap.size w w' := by
  have HR := Lib.hid hr
  clear hr
  have HL := Lib.hid hl
  clear hl
  have HM := Lib.hid hm
  clear hm
  have HB := Lib.hid (Below.refl w.heap.size w)
  by_cases c3 : N.length = M.length
  rotate_left
  · have hf := false_of (r := r) (fun e_ => c3 (by rw [HR.out.1 e_]))
    have d3 : ((N.length : Int) != (M.length : Int)) = true := by simp; omega
    subst hf
    go_enter Try.func33, Try.ntmps33
    go_wp2_with fail
    go_ret
    exact ⟨rfl, HB.out⟩
  have C3 := Lib.hid c3
  have d3 : ((N.length : Int) != (M.length : Int)) = false := by simp [c3]
  go_enter Try.func33, Try.ntmps33
  go_wp2_with fail
  clear d3 c3
  go_loopw [5] (fun i wr => ∃ k : Nat, k ≤ N.length ∧ i = .int .i64 k ∧ Hid (∀ j, j < k → gd4 N j = gd4 M j) ∧ Below w.heap.size w wr) (fun i _ => N.length - (intOf i).toNat)
  case atStart => exact ⟨0, Nat.zero_le _, rfl, (fun j hj => absurd hj (Nat.not_lt_zero j)), Below.refl _ _⟩
  case round =>
    obtain ⟨k, hk, rfl, HK, hW⟩ := hrel
    by_cases hlt : k < N.length
    · obtain ⟨b0, o0, rfl, e0, e1, e2, e3⟩ := HL.out.below hW k hlt
      obtain ⟨b1, o1, rfl, f0, f1, f2, f3⟩ := HM.out.below hW k (by rw [← C3.out]; exact hlt)
      have HW := Lib.hid hW
      clear hW
      have hlt2 : (k : Int) < M.length := by have := C3.out; omega
      have w1_ : IntKind.i64.wrap ((k : Int) + 1) = (k : Int) + 1 := IntWalk.i64_in _ ⟨by omega, by omega⟩
      have w2_ : wrap64 ((k : Int) + 1) = (k : Int) + 1 := IntWalk.wrap64_in _ ⟨by omega, by omega⟩
      obtain ⟨q, hq⟩ : ∃ q, decide (gd4 N k = gd4 M k) = q := ⟨_, rfl⟩
      have HQ := Lib.hid hq
      clear hq
      generalize hu : gd4 N k = u at *
      generalize hv : gd4 M k = v at *
      have HU := Lib.hid (And.intro hu hv)
      clear hu hv
      obtain ⟨ua, ub, uc, ud⟩ := u
      obtain ⟨va, vb, vc, vd⟩ := v
      dsimp only at e0 e1 e2 e3 f0 f1 f2 f3
      have hne : ∀ W, (binOp .neq 70 (.agg #[.int .i64 ua, .int .i64 ub, .int .i64 uc, .int .i64 ud]) (.agg #[.int .i64 va, .int .i64 vb, .int .i64 vc, .int .i64 vd])).run Try.prog W = .ok (.bool (!q)) W := fun W => ln_ne (e := q) (by have := HQ.out; simp only [Q4.mk.injEq] at this; exact this) W
      cases q
      · have hf := false_of (r := r) (fun e => by have h := HQ.out; rw [← HU.out.1, ← HU.out.2] at h; exact absurd (by rw [HR.out.1 e]) (of_decide_eq_false h))
        subst hf
        have z : (!false) = true := rfl
        rw [z] at hne
        go_wp2_with fail
        go_quiet (fail)
        go_wp2_with fail
        go_ret
        exact ⟨rfl, below_drewN' HW.out _⟩
      · have z : (!true) = false := rfl
        rw [z] at hne
        go_wp2_with fail
        go_quiet (fail)
        go_wp2_with fail
        go_roundw
        case rel => exact ⟨k + 1, hlt, int_of (by omega), (fun j hj => by by_cases e : j = k; (subst e; rw [HU.out.1, HU.out.2]; exact of_decide_eq_true HQ.out); exact HK.out j (by omega)), below_drewN' HW.out _⟩
        case measure => simp [intOf]; omega
    · have hf := true_of (HR.out.2 (list4_eq C3.out (fun j hj => HK.out j (by omega))))
      subst hf
      go_wp2_with fail
      go_ret
      exact ⟨rfl, hW⟩
/-- At most 12 targets and 12 bodies, with at most 12 corners each. -/
def Few (n : Nat) (L : List Bv) : Prop := n ≤ 12 ∧ L.length ≤ 12 ∧ ∀ k, k < L.length → (gdB L k).xs.length ≤ 12
set_option maxRecDepth 100000 in
set_option maxHeartbeats 4000000 in
theorem few9_is (A : Option Addr) (C : Nat) (T : List Q4) (B : Option Addr) (D : Nat) (L : List Bv) (h4 : T.length ≤ 9223372036854775807) (h5 : L.length ≤ 9223372036854775807) (h6 : ∀ k, k < L.length → (gdB L k).xs.length ≤ 9223372036854775807) (r : Bool) (hr : r = true ↔ Few T.length L) (w : World) (hm : BdS w B L) :
    Calls Try.prog 29 #[.slice A T.length C, .slice B L.length D] w fun e_ w' => e_ = .returned (.bool r) ∧ Below w.heap.size w w' := by
  have HR := Lib.hid hr
  clear hr
  have HM := Lib.hid hm
  clear hm
  have H6 := Lib.hid h6
  clear h6
  by_cases c1 : T.length ≤ 12
  rotate_left
  · have hf := false_of (r := r) (fun e_ => c1 (HR.out.1 e_).1)
    subst hf
    go_enter Try.func29, Try.ntmps29
    go_wp2_with fail
    go_ret
    exact ⟨rfl, Below.refl _ _⟩
  by_cases c2 : L.length ≤ 12
  rotate_left
  · have hf := false_of (r := r) (fun e_ => c2 (HR.out.1 e_).2.1)
    subst hf
    go_enter Try.func29, Try.ntmps29
    go_wp2_with fail
    go_ret
    exact ⟨rfl, Below.refl _ _⟩
  go_enter Try.func29, Try.ntmps29
  go_wp2_with fail
  go_loopw [5] (fun i wr => ∃ k : Nat, k ≤ L.length ∧ i = .int .i64 k ∧ Hid (∀ j, j < k → (gdB L j).xs.length ≤ 12) ∧ Below w.heap.size w wr) (fun i _ => L.length - (intOf i).toNat)
  case atStart => exact ⟨0, Nat.zero_le _, rfl, (fun j hj => absurd hj (Nat.not_lt_zero j)), Below.refl _ _⟩
  case round =>
    obtain ⟨k, hk, rfl, HK, hW⟩ := hrel
    by_cases hlt : k < L.length
    · obtain ⟨b0, o0, rfl, e0, e1, e2, _⟩ := HM.out.below hW k hlt
      have HW := Lib.hid hW
      clear hW
      have hux := H6.out k hlt
      obtain ⟨n, hn⟩ : ∃ n, (gdB L k).xs.length = n := ⟨_, rfl⟩
      rw [hn] at e0 hux
      have HN := Lib.hid hn
      clear hn
      generalize (gdB L k).A = uA at *
      generalize (gdB L k).C = uC at *
      generalize (gdB L k).lo = ul at *
      generalize (gdB L k).hi = uh at *
      by_cases hq : n ≤ 12
      · go_wp2_with fail
        go_roundw
        case rel => exact ⟨k + 1, hlt, int_of (by omega), (fun j hj => by by_cases e : j = k; (subst e; rw [HN.out]; exact hq); exact HK.out j (by omega)), HW.out⟩
        case measure => simp [intOf]; omega
      · have hf := false_of (r := r) (fun e => hq (by rw [← HN.out]; exact (HR.out.1 e).2.2 k hlt))
        subst hf
        go_wp2_with fail
        go_ret
        exact ⟨rfl, HW.out⟩
    · have hf := true_of (HR.out.2 ⟨c1, c2, fun j hj => HK.out j (by omega)⟩)
      subst hf
      go_wp2_with fail
      go_ret
      exact ⟨rfl, hW⟩
end Go.Proofs.Ytjjimbaogpmbmaa
