/-
  Plain facts for layer 9: the lines that Lines gives are right. The laws of layer 9: head. Plain facts for layer 9: ways that are blocked, by the parts that are strictly inside; the way back; the middle of a way; ways that are moved. Slices of bodies, of targets and of lines that come in. Plain facts for layer 9: errors, lists that came in.
-/
import Derived.Test.YtjjimbaogpmbmaaSgtZC
import Derived.Test.YtjjimbaogpmbmaaShpX
import Derived.Test.YtjjimbaogpmbmaaShpY
import Derived.Test.YtjjimbaogpmbmaaSgtZA
import Derived.Deep.Slices
import Derived.Deep.Strs
namespace Go.Proofs.Ytjjimbaogpmbmaa
set_option linter.unusedVariables false
set_option linter.unusedSimpArgs false

theorem hitB_lt {r : Rg} (h : hitB r = true) : r.ln * r.hd < r.hn * r.ld := by
  unfold hitB at h
  simp only [Bool.and_eq_true, decide_eq_true_eq] at h
  exact h.2
theorem med_q {r : Rg} (k : Rok 32000000 r) : medN r = qN (r.ln + r.hn) (r.ld + r.hd) ∧ medD r = qD (r.ln + r.hn) (r.ld + r.hd) := by
  obtain ⟨⟨_, _⟩, ⟨_, _⟩, ⟨_, _⟩, ⟨_, _⟩⟩ := k
  exact mk_pos (by omega) ⟨by omega, by omega⟩ (by omega)
/-- The mediant is a number, strictly between the ends. -/
theorem med_in {r : Rg} (k : Rok 32000000 r) (h : r.ln * r.hd < r.hn * r.ld) : vld (medN r) (medD r) = true ∧ r.ln * medD r < medN r * r.ld ∧ medN r * r.hd < r.hn * medD r := by
  obtain ⟨e1, e2⟩ := med_q k
  obtain ⟨⟨_, _⟩, ⟨_, _⟩, ⟨_, _⟩, ⟨_, _⟩⟩ := k
  rw [e1, e2]
  refine ⟨q_vld (by omega) ⟨by omega, by omega⟩ (by omega), (q_lt (by omega)).2 ?_, (lt_q (by omega)).2 ?_⟩
  · have e3 : r.ln * (r.ld + r.hd) = r.ln * r.ld + r.ln * r.hd := by grind
    have e4 : (r.ln + r.hn) * r.ld = r.ln * r.ld + r.hn * r.ld := by grind
    omega
  · have e3 : (r.ln + r.hn) * r.hd = r.ln * r.hd + r.hn * r.hd := by grind
    have e4 : r.hn * (r.ld + r.hd) = r.hn * r.ld + r.hn * r.hd := by grind
    omega
theorem lin_true {ex ey ez x y z : Int} {L : List Bv} (hw : Wy ex ey ez x y z) (hb : Bds L) (i : Int) : Tru ex ey ez x y z L (lin ex ey ez x y z L i) := by
  by_cases h : frs ex ey ez x y z L < L.length
  · have hh := frs_hit h
    have hm := med_in (rng_ok hw hb h) (hitB_lt hh)
    rw [lin_hit h]
    exact Or.inr ⟨_, h, rfl, hh, hm⟩
  · have := frs_le (ex := ex) (ey := ey) (ez := ez) (x := x) (y := y) (z := z) (L := L)
    rw [lin_none (by omega)]
    exact Or.inl ⟨rfl, by show _ = lin ex ey ez x y z L i; rw [lin_none (by omega)]⟩
theorem lns_num (ex ey ez : Int) (T : List Q4) (L : List Bv) : Num (lns ex ey ez T L) T.length := ⟨lns_len _ _ _ _ _, fun k hk => by rw [lns_at hk, lin_a]⟩
theorem lns_right {ex ey ez : Int} {T : List Q4} {L : List Bv} (ht : Tok T) (hs : Sut ex ey ez T) (hb : Bds L) : Rgt ex ey ez T L (lns ex ey ez T L) :=
  ⟨lns_num _ _ _ _ _, fun k hk => by rw [lns_at hk]; exact lin_true (wy_of hs ht hk) hb _⟩
theorem lns_i4 {ex ey ez : Int} {T : List Q4} {L : List Bv} (ht : Tok T) (hs : Sut ex ey ez T) (hb : Bds L) : I4 (lns ex ey ez T L) := fun k hk => by
  rw [lns_len] at hk
  rw [lns_at hk]
  have hw := wy_of hs ht hk
  generalize (gd4 T k).a = x at *
  generalize (gd4 T k).b = y at *
  generalize (gd4 T k).c = z at *
  by_cases h : frs ex ey ez x y z L < L.length
  · rw [lin_hit h]
    exact vld_i64 (med_in (rng_ok hw hb h) (hitB_lt (frs_hit h))).1
  · have := frs_le (ex := ex) (ey := ey) (ez := ez) (x := x) (y := y) (z := z) (L := L)
    rw [lin_none (by omega)]
    show I64 0 ∧ I64 1
    exact ⟨⟨by decide, by decide⟩, by decide, by decide⟩
/-- Lines that are right agree about what is seen. -/
theorem tru_seen {ex ey ez x y z : Int} {L : List Bv} {l : Q4} (h : Tru ex ey ez x y z L l) : l.b = -1 ↔ frs ex ey ez x y z L = L.length := by
  have hle := frs_le (ex := ex) (ey := ey) (ez := ez) (x := x) (y := y) (z := z) (L := L)
  rcases h with ⟨hb, hl⟩ | ⟨k, hk, hb, hh, _⟩
  · refine iff_of_true hb ?_
    by_cases h : frs ex ey ez x y z L < L.length
    · rw [lin_hit h] at hl
      have : l.b = (frs ex ey ez x y z L : Int) := by rw [hl]
      omega
    · omega
  · refine iff_of_false (by omega) fun e => ?_
    have := frs_before (ex := ex) (ey := ey) (ez := ez) (x := x) (y := y) (z := z) (L := L) (j := k) (by omega)
    rw [hh] at this
    cases this
end Go.Proofs.Ytjjimbaogpmbmaa

namespace Go.Proofs.Ytjjimbaogpmbmaa
open Go.RowKit Go.Sort
open Go.RowKit (Below)
set_option linter.unusedVariables false
set_option linter.unusedSimpArgs false
attribute [local go_sem] Oper.semAt_some

/-- The body of the chapter's examples. -/
def xs4 : List (Int × Int) := [(4, -1), (6, -1), (6, 1), (4, 1)]
def bv4 (g : Nat) : Bv := ⟨some ⟨g, 0, none⟩, 4, xs4, 0, 3⟩
theorem bok_4 : Bok xs4 0 3 := by
  constructor
  · decide
  · decide
  · exact four (by unfold co; decide) (by unfold co; decide) (by unfold co; decide) (by unfold co; decide)
  · exact four (by unfold co; decide) (by unfold co; decide) (by unfold co; decide) (by unfold co; decide)
  · unfold co; decide
  · unfold co; decide
  · decide
  · exact fun i h0 h => four (P := fun i => 0 < i → px xs4 0 < px xs4 i ∨ (px xs4 0 = px xs4 i ∧ py xs4 0 < py xs4 i)) (by decide) (by decide) (by decide) (by decide) i h h0
  · exact cvx4 (four (four (by decide) (by decide) (by decide) (by decide)) (four (by decide) (by decide) (by decide) (by decide)) (four (by decide) (by decide) (by decide) (by decide)) (four (by decide) (by decide) (by decide) (by decide)))
theorem bds_4 (g : Nat) : Bds [bv4 g] := fun k hk => by
  obtain rfl : k = 0 := by simp at hk; exact hk
  exact bok_4
def tgs : List Q4 := [⟨3, 0, 1, 3⟩, ⟨10, 0, 1, 1⟩]
def wnt : List Q4 := [⟨0, -1, 0, 1⟩, ⟨1, 0, 1, 2⟩]
theorem two_of {P : Nat → Prop} (h0 : P 0) (h1 : P 1) : ∀ i, i < 2 → P i := by
  intro i hi
  have : i = 0 ∨ i = 1 := by omega
  rcases this with rfl | rfl <;> assumption
theorem one_of {P : Nat → Prop} (h0 : P 0) : ∀ i, i < 1 → P i := by
  intro i hi
  obtain rfl : i = 0 := by omega
  exact h0
theorem wrg_0 (ex ey ez : Int) (T : List Q4) (g : Nat) (hl : T.length ≤ 60) (h1 : Tok T) (h2 : Sut ex ey ez T) : Wrg ex ey ez T [bv4 g] 0 := Or.inr (Or.inr ⟨hl, by simp, h1, h2, bds_4 g, rfl⟩)
theorem lin_1 (g : Nat) : (lin 0 0 1 10 0 1 [bv4 g] 0).b = 0 := by kernel_rfl
theorem lin_2 (g : Nat) : (lin 0 0 3 10 0 3 [bv4 g] 0).b = -1 := by kernel_rfl
theorem lin_3 (g : Nat) : (lin 0 0 1 4 0 1 [bv4 g] 0).b = -1 := by kernel_rfl
theorem lns_1 (g : Nat) : lns 0 0 1 tgs [bv4 g] = wnt := by kernel_rfl
theorem tok_1 {x y z : Int} (h : vv x y z = true) : Tok [⟨x, y, z, 1⟩] := ⟨by simp, one_of (by show tgb ⟨x, y, z, 1⟩ = false; unfold tgb; rw [h]; rfl)⟩
theorem sut_one {ex ey ez x y z : Int} (h : vv ex ey ez = true) (hn : ¬ (x = ex ∧ y = ey ∧ z = ez)) : Sut ex ey ez [⟨x, y, z, 1⟩] := ⟨v3_of h, one_of hn⟩
theorem fst_1 (g : Nat) : FstR 0 0 1 10 0 1 [bv4 g] 0 0 := ⟨wrg_0 _ _ _ _ g (by simp) (tok_1 (by decide)) (sut_one (by decide) (by decide)), Or.inr ⟨rfl, lin_1 g⟩⟩
theorem fst_2 (g : Nat) : FstR 0 0 3 10 0 3 [bv4 g] (-1) 0 := ⟨wrg_0 _ _ _ _ g (by simp) (tok_1 (by decide)) (sut_one (by decide) (by decide)), Or.inr ⟨rfl, lin_2 g⟩⟩
theorem fst_3 (g : Nat) : FstR 0 0 1 4 0 1 [bv4 g] (-1) 0 := ⟨wrg_0 _ _ _ _ g (by simp) (tok_1 (by decide)) (sut_one (by decide) (by decide)), Or.inr ⟨rfl, lin_3 g⟩⟩
theorem fst_4 (g : Nat) : FstR 0 0 1 0 0 1 [bv4 g] 0 1 := ⟨Or.inr (Or.inl ⟨by simp, by simp, fun h => h.2.1.2 0 (by simp) ⟨rfl, rfl, rfl⟩, rfl⟩), Or.inl ⟨by decide, rfl⟩⟩
theorem tok_t : Tok tgs := ⟨by decide, two_of (by decide) (by decide)⟩
theorem wrg_t (g : Nat) : Wrg 0 0 1 tgs [bv4 g] 0 := wrg_0 _ _ _ _ g (by decide) tok_t ⟨v3_of (by decide), two_of (by decide) (by decide)⟩
theorem num_t : Num wnt tgs.length := ⟨rfl, two_of (by decide) (by decide)⟩
theorem i4_t : I4 wnt := two_of ⟨⟨by decide, by decide⟩, by decide, by decide⟩ ⟨⟨by decide, by decide⟩, by decide, by decide⟩
theorem bsm_4 (g : Nat) : Bsm [bv4 g] := one_of (by show xs4.length ≤ 9223372036854775806; decide)
theorem chk_t (g : Nat) : ChkR 0 0 1 tgs [bv4 g] wnt true 0 := ⟨wrg_t g, Or.inr ⟨rfl, iff_of_true rfl (by rw [← lns_1 g]; exact lns_right tok_t ⟨v3_of (by decide), two_of (by decide) (by decide)⟩ (bds_4 g))⟩⟩
theorem shr_t : ShR tgs wnt 3 4 0 := Or.inr (Or.inr ⟨by decide, tok_t, num_t, rfl, by kernel_rfl, by kernel_rfl⟩)
theorem hf_1 (g gb : Nat) (w : World) (hm : BdS w (some ⟨gb, 0, none⟩) [bv4 g]) : Calls Try.prog 30 #[.agg #[.int .i64 0, .int .i64 0, .int .i64 1], .agg #[.int .i64 10, .int .i64 0, .int .i64 1], .slice (some ⟨gb, 0, none⟩) 1 1] w fun e_ w' => e_ = .returned (.tuple #[.int .i64 0, .int .i64 0]) ∧ Below w.heap.size w w' :=
  first_is 0 0 1 10 0 1 (some ⟨gb, 0, none⟩) 1 [bv4 g] (by simp) 0 0 (fst_1 g) (fun _ => bsm_4 g) w hm
theorem hf_2 (g gb : Nat) (w : World) (hm : BdS w (some ⟨gb, 0, none⟩) [bv4 g]) : Calls Try.prog 30 #[.agg #[.int .i64 0, .int .i64 0, .int .i64 3], .agg #[.int .i64 10, .int .i64 0, .int .i64 3], .slice (some ⟨gb, 0, none⟩) 1 1] w fun e_ w' => e_ = .returned (.tuple #[.int .i64 (-1), .int .i64 0]) ∧ Below w.heap.size w w' :=
  first_is 0 0 3 10 0 3 (some ⟨gb, 0, none⟩) 1 [bv4 g] (by simp) (-1) 0 (fst_2 g) (fun _ => bsm_4 g) w hm
theorem hf_3 (g gb : Nat) (w : World) (hm : BdS w (some ⟨gb, 0, none⟩) [bv4 g]) : Calls Try.prog 30 #[.agg #[.int .i64 0, .int .i64 0, .int .i64 1], .agg #[.int .i64 4, .int .i64 0, .int .i64 1], .slice (some ⟨gb, 0, none⟩) 1 1] w fun e_ w' => e_ = .returned (.tuple #[.int .i64 (-1), .int .i64 0]) ∧ Below w.heap.size w w' :=
  first_is 0 0 1 4 0 1 (some ⟨gb, 0, none⟩) 1 [bv4 g] (by simp) (-1) 0 (fst_3 g) (fun _ => bsm_4 g) w hm
theorem hf_4 (g gb : Nat) (w : World) (hm : BdS w (some ⟨gb, 0, none⟩) [bv4 g]) : Calls Try.prog 30 #[.agg #[.int .i64 0, .int .i64 0, .int .i64 1], .agg #[.int .i64 0, .int .i64 0, .int .i64 1], .slice (some ⟨gb, 0, none⟩) 1 1] w fun e_ w' => e_ = .returned (.tuple #[.int .i64 0, .int .i64 1]) ∧ Below w.heap.size w w' :=
  first_is 0 0 1 0 0 1 (some ⟨gb, 0, none⟩) 1 [bv4 g] (by simp) 0 1 (fst_4 g) (fun _ => bsm_4 g) w hm
theorem hl_1 (g gb gt : Nat) (w : World) (hl : S4 w (some ⟨gt, 0, none⟩) tgs) (hm : BdS w (some ⟨gb, 0, none⟩) [bv4 g]) : Calls Try.prog 27 #[.agg #[.int .i64 0, .int .i64 0, .int .i64 1], .slice (some ⟨gt, 0, none⟩) 2 2, .slice (some ⟨gb, 0, none⟩) 1 1] w fun e_ w' => ∃ h, e_ = .returned (.tuple #[.slice (some ⟨h, 0, none⟩) 2 2, .int .i64 0]) ∧ S4 w' (some ⟨h, 0, none⟩) wnt ∧ Below w.heap.size w w' := by
  have h := lines_1 0 0 1 (some ⟨gt, 0, none⟩) 2 tgs (some ⟨gb, 0, none⟩) 1 [bv4 g] (by decide) (by simp) (wrg_t g) w hl hm
  rw [lns_1 g] at h
  exact h
theorem hc_1 (g gb gt gn : Nat) (w : World) (hl : S4 w (some ⟨gt, 0, none⟩) tgs) (hm : BdS w (some ⟨gb, 0, none⟩) [bv4 g]) (hn : S4 w (some ⟨gn, 0, none⟩) wnt) : Calls Try.prog 28 #[.agg #[.int .i64 0, .int .i64 0, .int .i64 1], .slice (some ⟨gt, 0, none⟩) 2 2, .slice (some ⟨gb, 0, none⟩) 1 1, .slice (some ⟨gn, 0, none⟩) 2 2] w fun e_ w' => e_ = .returned (.tuple #[.bool true, .int .i64 0]) ∧ Below w.heap.size w w' :=
  check_is 0 0 1 (some ⟨gt, 0, none⟩) 2 tgs (some ⟨gb, 0, none⟩) 1 [bv4 g] (some ⟨gn, 0, none⟩) 2 wnt (by decide) (by simp) (by decide) i4_t true 0 (chk_t g) (fun _ _ => bsm_4 g) w hl hm hn
theorem hs_1 (gt gn : Nat) (w : World) (hl : S4 w (some ⟨gt, 0, none⟩) tgs) (hn : S4 w (some ⟨gn, 0, none⟩) wnt) : Calls Try.prog 35 #[.slice (some ⟨gt, 0, none⟩) 2 2, .slice (some ⟨gn, 0, none⟩) 2 2] w fun e_ w' => e_ = .returned (.tuple #[.agg #[.int .i64 3, .int .i64 4], .int .i64 0]) ∧ Below w.heap.size w w' :=
  share_is (some ⟨gt, 0, none⟩) 2 tgs (some ⟨gn, 0, none⟩) 2 wnt (by decide) (by decide) 3 4 0 shr_t w hl hn
theorem hq_1 (ga gn : Nat) (w : World) (hl : S4 w (some ⟨ga, 0, none⟩) wnt) (hn : S4 w (some ⟨gn, 0, none⟩) wnt) : Calls Try.prog 33 #[.slice (some ⟨ga, 0, none⟩) 2 2, .slice (some ⟨gn, 0, none⟩) 2 2] w fun e_ w' => e_ = .returned (.bool true) ∧ Below w.heap.size w w' :=
  qsames_is (some ⟨ga, 0, none⟩) (some ⟨gn, 0, none⟩) 2 2 wnt wnt (by decide) (by decide) true (iff_of_true rfl rfl) w hl hn
theorem s4_two {W : World} {g : Nat} {t : TypeId} {fz : Nat × Nat} {p q : Q4} (h : W.heap[g]? = some (.cells #[.int .i64 p.a, .int .i64 p.b, .int .i64 p.c, .int .i64 p.d, .int .i64 q.a, .int .i64 q.b, .int .i64 q.c, .int .i64 q.d] t fz)) : S4 W (some ⟨g, 0, none⟩) [p, q] :=
  two_of (P := fun k => ∃ b o, some (⟨g, 0, none⟩ : Addr) = some ⟨b, o, none⟩ ∧ W.cell? ⟨b, o + k * 4, none⟩ = some (.int .i64 (gd4 [p, q] k).a) ∧ W.cell? ⟨b, o + k * 4 + 1, none⟩ = some (.int .i64 (gd4 [p, q] k).b) ∧ W.cell? ⟨b, o + k * 4 + 2, none⟩ = some (.int .i64 (gd4 [p, q] k).c) ∧ W.cell? ⟨b, o + k * 4 + 3, none⟩ = some (.int .i64 (gd4 [p, q] k).d))
    ⟨g, 0, rfl, by simp [World.cell?, h, gd4], by simp [World.cell?, h, gd4], by simp [World.cell?, h, gd4], by simp [World.cell?, h, gd4]⟩ ⟨g, 0, rfl, by simp [World.cell?, h, gd4], by simp [World.cell?, h, gd4], by simp [World.cell?, h, gd4], by simp [World.cell?, h, gd4]⟩
theorem bds_blk {W : World} {g gb : Nat} {t t' : TypeId} {fz fz' : Nat × Nat} (h0 : W.heap[g]? = some (.cells #[.int .i64 4, .int .i64 (-1), .int .i64 6, .int .i64 (-1), .int .i64 6, .int .i64 1, .int .i64 4, .int .i64 1] t fz)) (h1 : W.heap[gb]? = some (.cells #[.slice (some ⟨g, 0, none⟩) 4 4, .int .i64 0, .int .i64 3] t' fz')) : BdS W (some ⟨gb, 0, none⟩) [bv4 g] :=
  one_of ⟨gb, 0, rfl, by simp [World.cell?, h1, gdB, bv4, xs4], by simp [World.cell?, h1, gdB, bv4], by simp [World.cell?, h1, gdB, bv4],
    four ⟨g, 0, rfl, by simp [World.cell?, h0, gdS, gdB, bv4, xs4], by simp [World.cell?, h0, gdS, gdB, bv4, xs4]⟩ ⟨g, 0, rfl, by simp [World.cell?, h0, gdS, gdB, bv4, xs4], by simp [World.cell?, h0, gdS, gdB, bv4, xs4]⟩ ⟨g, 0, rfl, by simp [World.cell?, h0, gdS, gdB, bv4, xs4], by simp [World.cell?, h0, gdS, gdB, bv4, xs4]⟩ ⟨g, 0, rfl, by simp [World.cell?, h0, gdS, gdB, bv4, xs4], by simp [World.cell?, h0, gdS, gdB, bv4, xs4]⟩⟩
set_option maxRecDepth 100000 in
set_option maxHeartbeats 4000000 in
theorem head9_any (w : World) :
    Calls Try.prog 26 #[] w fun e_ w' => e_ = .returned (.bool true) ∧ Below w.heap.size w w' := by
  have e1 := fun W => rat_eq (a := 3) (b := 4) (x := 3) (y := 4) (r := true) (by decide) W
  go_enter Try.func26, Try.ntmps26
  go_wp2_with fail
  obtain ⟨w1, hw1⟩ : ∃ V, ((w.alloc (.cells #[.int .i64 4, .int .i64 (-1), .int .i64 6, .int .i64 (-1), .int .i64 6, .int .i64 1, .int .i64 4, .int .i64 1] 54)).alloc (.cells #[.slice (some ⟨w.heap.size, 0, none⟩) 4 4, .int .i64 0, .int .i64 3] 42)).alloc (.cells #[.int .i64 0, .int .i64 0, .int .i64 1] 27) = V := ⟨_, rfl⟩
  obtain ⟨hb, k0, k1, k2⟩ := boxes3 _ _ _ _ hw1
  rw [hw1]
  have HB := Lib.hid hb
  have HM := Lib.hid (bds_blk k0 k1)
  have u0 := (cells3 k2).1
  have u1 := (cells3 k2).2.1
  have u2 := (cells3 k2).2.2
  clear hw1 hb k0 k1 k2
  have lu := block_lt u0
  generalize w.heap.size + 1 = gb at *
  generalize gb + 1 = gu at *
  with_reducible refine (hf_1 _ _ _ HM.out).mono ?_
  rintro e_ w2 ⟨rfl, hb⟩
  replace HB := Lib.hid (on_below HB.out hb)
  replace HM := Lib.hid (HM.out.below hb)
  replace u0 := keepc hb u0
  replace u1 := keepc hb u1
  replace u2 := keepc hb u2
  replace lu := Nat.lt_of_lt_of_le lu hb.size
  clear hb
  go_wp2_with fail
  with_reducible refine (hf_2 _ _ _ HM.out).mono ?_
  rintro e_ w3 ⟨rfl, hb⟩
  replace HB := Lib.hid (on_below HB.out hb)
  replace HM := Lib.hid (HM.out.below hb)
  replace u0 := keepc hb u0
  replace u1 := keepc hb u1
  replace u2 := keepc hb u2
  replace lu := Nat.lt_of_lt_of_le lu hb.size
  clear hb
  go_wp2_with fail
  with_reducible refine (hf_3 _ _ _ HM.out).mono ?_
  rintro e_ w4 ⟨rfl, hb⟩
  replace HB := Lib.hid (on_below HB.out hb)
  replace HM := Lib.hid (HM.out.below hb)
  replace u0 := keepc hb u0
  replace u1 := keepc hb u1
  replace u2 := keepc hb u2
  replace lu := Nat.lt_of_lt_of_le lu hb.size
  clear hb
  go_wp2_with fail
  have ht : S4 (w4.alloc (.cells #[.int .i64 3, .int .i64 0, .int .i64 1, .int .i64 3, .int .i64 10, .int .i64 0, .int .i64 1, .int .i64 1] 74)) (some ⟨w4.heap.size, 0, none⟩) tgs := s4_two (World.alloc_heap_new _ _)
  have hb := below_new w4 (.cells #[.int .i64 3, .int .i64 0, .int .i64 1, .int .i64 3, .int .i64 10, .int .i64 0, .int .i64 1, .int .i64 1] 74)
  generalize w4.alloc (.cells #[.int .i64 3, .int .i64 0, .int .i64 1, .int .i64 3, .int .i64 10, .int .i64 0, .int .i64 1, .int .i64 1] 74) = w5 at *
  replace HB := Lib.hid (on_below HB.out hb)
  replace HM := Lib.hid (HM.out.below hb)
  replace u0 := keepc hb u0
  replace u1 := keepc hb u1
  replace u2 := keepc hb u2
  replace lu := Nat.lt_of_lt_of_le lu hb.size
  clear hb
  have HT := Lib.hid ht
  clear ht
  generalize w4.heap.size = ght at *
  with_reducible refine (hl_1 _ _ _ _ HT.out HM.out).mono ?_
  rintro e_ w6 ⟨gl, rfl, hn, hb⟩
  replace HB := Lib.hid (on_below HB.out hb)
  replace HM := Lib.hid (HM.out.below hb)
  replace HT := Lib.hid (HT.out.below hb)
  replace u0 := keepc hb u0
  replace u1 := keepc hb u1
  replace u2 := keepc hb u2
  replace lu := Nat.lt_of_lt_of_le lu hb.size
  clear hb
  have HN := Lib.hid hn
  clear hn
  go_wp2_with fail
  have hw : S4 (w6.alloc (.cells #[.int .i64 0, .int .i64 ((-1)), .int .i64 0, .int .i64 1, .int .i64 1, .int .i64 0, .int .i64 1, .int .i64 2] 70)) (some ⟨w6.heap.size, 0, none⟩) wnt := s4_two (World.alloc_heap_new _ _)
  have hb := below_new w6 (.cells #[.int .i64 0, .int .i64 ((-1)), .int .i64 0, .int .i64 1, .int .i64 1, .int .i64 0, .int .i64 1, .int .i64 2] 70)
  generalize w6.alloc (.cells #[.int .i64 0, .int .i64 ((-1)), .int .i64 0, .int .i64 1, .int .i64 1, .int .i64 0, .int .i64 1, .int .i64 2] 70) = w7 at *
  replace HB := Lib.hid (on_below HB.out hb)
  replace HM := Lib.hid (HM.out.below hb)
  replace HT := Lib.hid (HT.out.below hb)
  replace HN := Lib.hid (HN.out.below hb)
  replace u0 := keepc hb u0
  replace u1 := keepc hb u1
  replace u2 := keepc hb u2
  replace lu := Nat.lt_of_lt_of_le lu hb.size
  clear hb
  have HV := Lib.hid hw
  clear hw
  generalize w6.heap.size = ghw at *
  with_reducible refine (hc_1 _ _ _ _ _ HT.out HM.out HV.out).mono ?_
  rintro e_ w8 ⟨rfl, hb⟩
  replace HB := Lib.hid (on_below HB.out hb)
  replace HM := Lib.hid (HM.out.below hb)
  replace HT := Lib.hid (HT.out.below hb)
  replace HN := Lib.hid (HN.out.below hb)
  replace HV := Lib.hid (HV.out.below hb)
  replace u0 := keepc hb u0
  replace u1 := keepc hb u1
  replace u2 := keepc hb u2
  replace lu := Nat.lt_of_lt_of_le lu hb.size
  clear hb
  go_wp2_with fail
  with_reducible refine (hs_1 _ _ _ HT.out HV.out).mono ?_
  rintro e_ w9 ⟨rfl, hb⟩
  replace HB := Lib.hid (on_below HB.out hb)
  replace HM := Lib.hid (HM.out.below hb)
  replace HT := Lib.hid (HT.out.below hb)
  replace HN := Lib.hid (HN.out.below hb)
  replace HV := Lib.hid (HV.out.below hb)
  replace u0 := keepc hb u0
  replace u1 := keepc hb u1
  replace u2 := keepc hb u2
  replace lu := Nat.lt_of_lt_of_le lu hb.size
  clear hb
  go_wp2_with fail
  have s0 : World.cell? (w9.alloc (.cells #[.int .i64 3, .int .i64 4] 39)) ⟨w9.heap.size, 0, none⟩ = some (.int .i64 3) := by simp [go_sem]
  have s1 : World.cell? (w9.alloc (.cells #[.int .i64 3, .int .i64 4] 39)) ⟨w9.heap.size, 1, none⟩ = some (.int .i64 4) := by simp [go_sem]
  have ls : w9.heap.size < (w9.alloc (.cells #[.int .i64 3, .int .i64 4] 39)).heap.size := by simp
  have hb : Below w9.heap.size w9 (w9.alloc (.cells #[.int .i64 3, .int .i64 4] 39)) := below_new _ _
  generalize w9.alloc (.cells #[.int .i64 3, .int .i64 4] 39) = w10 at *
  replace HB := Lib.hid (on_below HB.out hb)
  replace HM := Lib.hid (HM.out.below hb)
  replace HT := Lib.hid (HT.out.below hb)
  replace HN := Lib.hid (HN.out.below hb)
  replace HV := Lib.hid (HV.out.below hb)
  replace u0 := keepc hb u0
  replace u1 := keepc hb u1
  replace u2 := keepc hb u2
  replace lu := Nat.lt_of_lt_of_le lu hb.size
  clear hb
  generalize w9.heap.size = gs at *
  with_reducible refine (hf_4 _ _ _ HM.out).mono ?_
  rintro e_ w11 ⟨rfl, hb⟩
  replace HB := Lib.hid (on_below HB.out hb)
  replace HM := Lib.hid (HM.out.below hb)
  replace HT := Lib.hid (HT.out.below hb)
  replace HN := Lib.hid (HN.out.below hb)
  replace HV := Lib.hid (HV.out.below hb)
  replace u0 := keepc hb u0
  replace u1 := keepc hb u1
  replace u2 := keepc hb u2
  replace s0 := keepc hb s0
  replace s1 := keepc hb s1
  replace lu := Nat.lt_of_lt_of_le lu hb.size
  replace ls := Nat.lt_of_lt_of_le ls hb.size
  clear hb
  go_wp2_with fail
  with_reducible refine (hq_1 _ _ _ HN.out HV.out).mono ?_
  rintro e_ w12 ⟨rfl, hb⟩
  replace HB := Lib.hid (on_below HB.out hb)
  replace HM := Lib.hid (HM.out.below hb)
  replace HT := Lib.hid (HT.out.below hb)
  replace HN := Lib.hid (HN.out.below hb)
  replace HV := Lib.hid (HV.out.below hb)
  replace u0 := keepc hb u0
  replace u1 := keepc hb u1
  replace u2 := keepc hb u2
  replace s0 := keepc hb s0
  replace s1 := keepc hb s1
  replace lu := Nat.lt_of_lt_of_le lu hb.size
  replace ls := Nat.lt_of_lt_of_le ls hb.size
  clear hb
  go_wp2_with fail
  go_ret
  exact ⟨rfl, HB.out⟩
end Go.Proofs.Ytjjimbaogpmbmaa

namespace Go.Proofs.Ytjjimbaogpmbmaa
set_option linter.unusedVariables false
set_option linter.unusedSimpArgs false

/-- The part n/d of a way is strictly inside. -/
def Ati (b : Bv) (ex ey ez x y z n d : Int) : Prop := ∀ k, k < b.xs.length + 2 → 0 < dep b.xs b.lo b.hi k ex ey ez * (d - n) + dep b.xs b.lo b.hi k x y z * n
section
variable {b : Bv} {ex ey ez x y z n d : Int}
theorem ati_cnd : (∀ c ∈ cnd b.xs b.lo b.hi ex ey ez x y z, 0 < c.1 * d + c.2 * n) ↔ Ati b ex ey ez x y z n d := by
  have e : ∀ p q : Int, p * d + (q - p) * n = p * (d - n) + q * n := fun p q => by grind
  constructor
  · intro h k hk
    have := h _ (List.mem_of_getElem? (cnd_at (fx := ex) (fy := ey) (fz := ez) (tx := x) (ty := y) (tz := z) hk))
    simp only at this
    rwa [e] at this
  · intro h c hc
    obtain ⟨k, hk⟩ := List.getElem?_of_mem hc
    have hl : k < b.xs.length + 2 := by rw [← cnd_len b.xs b.lo b.hi ex ey ez x y z]; exact (List.getElem?_eq_some_iff.1 hk).1
    rw [cnd_at hl] at hk
    injection hk with hk
    subst hk
    simp only
    rw [e]
    exact h k hl
theorem rok1 (hb : Bok b.xs b.lo b.hi) (he : V3 ex ey ez) (hp : V3 x y z) : Rok 32000000 (rng ex ey ez x y z b) :=
  clp_ok (m := 32000000) (r := r0) ⟨by decide, by decide, by decide, by decide⟩ (cnd_bd hb he hp)
theorem rok0 : Rok 32000000 r0 := ⟨by decide, by decide, by decide, by decide⟩
theorem hit_ati (hb : Bok b.xs b.lo b.hi) (he : V3 ex ey ez) (hp : V3 x y z) (hd : 0 < d) : mem (rng ex ey ez x y z b) n d ↔ (0 < n ∧ n < d) ∧ Ati b ex ey ez x y z n d := by
  have h := mem_clp (m := 32000000) (n := n) hd (C := cnd b.xs b.lo b.hi ex ey ez x y z) (r := r0) rok0 (cnd_bd hb he hp)
  rw [ati_cnd] at h
  refine h.trans (and_congr_left fun _ => ?_)
  unfold mem r0
  simp
theorem hit_iff (hb : Bok b.xs b.lo b.hi) (he : V3 ex ey ez) (hp : V3 x y z) : hit ex ey ez x y z b = true ↔ ∃ n d, 0 < n ∧ n < d ∧ Ati b ex ey ez x y z n d := by
  have k := rok1 hb he hp
  constructor
  · intro h
    have hl := hitB_lt h
    obtain ⟨h1, h2, h3⟩ := med_in k hl
    have hd := vld_pos h1
    have he' : (rng ex ey ez x y z b).e = false := by
      have h' : hitB (rng ex ey ez x y z b) = true := h
      unfold hitB at h'
      simp only [Bool.and_eq_true, Bool.not_eq_true'] at h'
      exact h'.1
    have := (hit_ati hb he hp hd).1 ⟨he', h2, h3⟩
    exact ⟨_, _, this.1.1, this.1.2, this.2⟩
  · rintro ⟨n, d, h1, h2, h3⟩
    exact hit_mem k (by omega : 0 < d) ((hit_ati hb he hp (by omega)).2 ⟨⟨h1, h2⟩, h3⟩)
theorem rng_rev : Rev (rng ex ey ez x y z b) (rng x y z ex ey ez b) := by
  have h := rev_clp (cnd b.xs b.lo b.hi ex ey ez x y z) rev_r0
  rw [← cnd_back] at h
  exact h
theorem hit_rev : hit x y z ex ey ez b = hit ex ey ez x y z b := rev_hit rng_rev
end
/-! ### The first body -/
section
variable {ex ey ez x y z : Int} {L : List Bv}
theorem frs_len : frs ex ey ez x y z L = L.length ↔ ∀ j, j < L.length → hit ex ey ez x y z (gdB L j) = false :=
  ⟨fun h j hj => frs_before (by omega), frs_none⟩
theorem frs_congr {a b c d e f : Int} (h : ∀ j, j < L.length → hit ex ey ez x y z (gdB L j) = hit a b c d e f (gdB L j)) : frs ex ey ez x y z L = frs a b c d e f L := by
  by_cases hl : frs a b c d e f L < L.length
  · exact frs_at hl (by rw [h _ hl]; exact frs_hit hl) fun j hj => by rw [h j (by omega)]; exact frs_before hj
  · have := frs_le (ex := a) (ey := b) (ez := c) (x := d) (y := e) (z := f) (L := L)
    have e0 : frs a b c d e f L = L.length := by omega
    rw [e0]
    exact frs_none fun j hj => by rw [h j hj]; exact frs_len.1 e0 j hj
theorem lin_b (i : Int) : ((lin ex ey ez x y z L i).b = -1 ↔ frs ex ey ez x y z L = L.length) ∧ (frs ex ey ez x y z L < L.length → (lin ex ey ez x y z L i).b = frs ex ey ez x y z L) := by
  have hle := frs_le (ex := ex) (ey := ey) (ez := ez) (x := x) (y := y) (z := z) (L := L)
  by_cases h : frs ex ey ez x y z L < L.length
  · rw [lin_hit h]
    exact ⟨⟨fun e => by have : ((frs ex ey ez x y z L : Nat) : Int) = -1 := e; omega, fun e => by omega⟩, fun _ => rfl⟩
  · rw [lin_none (by omega)]
    exact ⟨iff_of_true rfl (by omega), fun h' => absurd h' h⟩
end
/-! ### The middle -/
section
variable {b : Bv} {ex ey ez x y z hx hy hz : Int}
theorem dep_mid (xs : List (Int × Int)) (lo hi : Int) (k : Nat) : dep xs lo hi k (2 * hx - ex) (2 * hy - ey) (2 * hz - ez) = 2 * dep xs lo hi k hx hy hz - dep xs lo hi k ex ey ez := by
  unfold dep
  split
  · unfold crs; grind
  · split <;> omega
theorem hit_in (hb : Bok b.xs b.lo b.hi) (he : V3 ex ey ez) (hp : V3 x y z) (h : InB b.xs b.lo b.hi x y z) : hit ex ey ez x y z b = true := by
  refine (hit_iff hb he hp).2 ⟨64000000, 64000001, by decide, by decide, fun k hk => ?_⟩
  have h1 := ins_dep.1 h k hk
  have h2 := dep_bd hb he k
  omega
/-- The whole way is blocked exactly if one of its halves is. -/
theorem hit_halves (hb : Bok b.xs b.lo b.hi) (he : V3 ex ey ez) (hh : V3 hx hy hz) (ht : V3 (2 * hx - ex) (2 * hy - ey) (2 * hz - ez)) :
    hit ex ey ez (2 * hx - ex) (2 * hy - ey) (2 * hz - ez) b = true ↔ hit ex ey ez hx hy hz b = true ∨ hit hx hy hz (2 * hx - ex) (2 * hy - ey) (2 * hz - ez) b = true := by
  constructor
  · intro h
    obtain ⟨n, d, h1, h2, h3⟩ := (hit_iff hb he ht).1 h
    rcases Int.lt_trichotomy (2 * n) d with c | c | c
    · refine Or.inl ((hit_iff hb he hh).2 ⟨2 * n, d, by omega, c, fun k hk => ?_⟩)
      have := h3 k hk
      rw [dep_mid] at this
      have e : ∀ p q : Int, p * (d - n) + (2 * q - p) * n = p * (d - 2 * n) + q * (2 * n) := fun p q => by grind
      rwa [e] at this
    · refine Or.inl (hit_in hb he hh (ins_dep.2 fun k hk => ?_))
      have := h3 k hk
      rw [dep_mid] at this
      have e : ∀ p q : Int, p * (d - n) + (2 * q - p) * n = q * d + p * (d - 2 * n) := fun p q => by subst c; grind
      rw [e, show d - 2 * n = 0 by omega, Int.mul_zero, Int.add_zero] at this
      exact pos_of_mul_right (by omega : 0 < d) this
    · refine Or.inr ((hit_iff hb hh ht).2 ⟨2 * n - d, d, by omega, by omega, fun k hk => ?_⟩)
      have := h3 k hk
      rw [dep_mid] at this ⊢
      have e : ∀ p q : Int, p * (d - n) + (2 * q - p) * n = q * (d - (2 * n - d)) + (2 * q - p) * (2 * n - d) := fun p q => by grind
      rwa [e] at this
  · rintro (h | h)
    · obtain ⟨n, d, h1, h2, h3⟩ := (hit_iff hb he hh).1 h
      refine (hit_iff hb he ht).2 ⟨n, 2 * d, h1, by omega, fun k hk => ?_⟩
      have := h3 k hk
      rw [dep_mid]
      have e : ∀ p q : Int, p * (2 * d - n) + (2 * q - p) * n = 2 * (p * (d - n) + q * n) := fun p q => by grind
      rw [e]
      omega
    · obtain ⟨n, d, h1, h2, h3⟩ := (hit_iff hb hh ht).1 h
      refine (hit_iff hb he ht).2 ⟨d + n, 2 * d, by omega, by omega, fun k hk => ?_⟩
      have := h3 k hk
      rw [dep_mid] at this ⊢
      have e : ∀ p q : Int, p * (2 * d - (d + n)) + (2 * q - p) * (d + n) = 2 * (q * (d - n) + (2 * q - p) * n) := fun p q => by grind
      rw [e]
      omega
theorem frs_halves {L : List Bv} (hb : Bds L) (he : V3 ex ey ez) (hh : V3 hx hy hz) (ht : V3 (2 * hx - ex) (2 * hy - ey) (2 * hz - ez)) :
    frs ex ey ez (2 * hx - ex) (2 * hy - ey) (2 * hz - ez) L = L.length ↔ frs ex ey ez hx hy hz L = L.length ∧ frs hx hy hz (2 * hx - ex) (2 * hy - ey) (2 * hz - ez) L = L.length := by
  rw [frs_len, frs_len, frs_len]
  constructor
  · intro h
    refine ⟨fun j hj => not_true fun k => ?_, fun j hj => not_true fun k => ?_⟩
    · have := h j hj; rw [(hit_halves (hb j hj) he hh ht).2 (Or.inl k)] at this; cases this
    · have := h j hj; rw [(hit_halves (hb j hj) he hh ht).2 (Or.inr k)] at this; cases this
  · rintro ⟨h1, h2⟩ j hj
    refine not_true fun k => ?_
    rcases (hit_halves (hb j hj) he hh ht).1 k with h | h
    · rw [h1 j hj] at h; cases h
    · rw [h2 j hj] at h; cases h
/-- If the mediant of the ends is a half, the middle is strictly inside. -/
theorem mid_in (hb : Bok b.xs b.lo b.hi) (he : V3 ex ey ez) (ht : V3 (2 * hx - ex) (2 * hy - ey) (2 * hz - ez)) (h : hit ex ey ez (2 * hx - ex) (2 * hy - ey) (2 * hz - ez) b = true)
    (h1 : medN (rng ex ey ez (2 * hx - ex) (2 * hy - ey) (2 * hz - ez) b) = 1) (h2 : medD (rng ex ey ez (2 * hx - ex) (2 * hy - ey) (2 * hz - ez) b) = 2) : InB b.xs b.lo b.hi hx hy hz := by
  have k := rok1 hb he ht
  obtain ⟨g1, g2, g3⟩ := med_in k (hitB_lt h)
  rw [h1, h2] at g2 g3
  have he' : (rng ex ey ez (2 * hx - ex) (2 * hy - ey) (2 * hz - ez) b).e = false := by
    have h' : hitB (rng ex ey ez (2 * hx - ex) (2 * hy - ey) (2 * hz - ez) b) = true := h
    unfold hitB at h'
    simp only [Bool.and_eq_true, Bool.not_eq_true'] at h'
    exact h'.1
  have := ((hit_ati hb he ht (by decide)).1 ⟨he', g2, g3⟩).2
  refine ins_dep.2 fun k hk => ?_
  have := this k hk
  rw [dep_mid] at this
  omega
end
/-! ### The way back -/
section
variable {b : Bv} {ex ey ez x y z : Int}
theorem med_rev (k : Rok 32000000 (rng ex ey ez x y z b)) (k' : Rok 32000000 (rng x y z ex ey ez b)) : medD (rng x y z ex ey ez b) = medD (rng ex ey ez x y z b) ∧ medN (rng x y z ex ey ez b) + medN (rng ex ey ez x y z b) = medD (rng ex ey ez x y z b) := by
  obtain ⟨h1, h2, h3, h4, _⟩ := rng_rev (b := b) (ex := ex) (ey := ey) (ez := ez) (x := x) (y := y) (z := z)
  obtain ⟨⟨_, _⟩, ⟨_, _⟩, ⟨_, _⟩, ⟨_, _⟩⟩ := id k'
  obtain ⟨⟨_, _⟩, ⟨_, _⟩, ⟨_, _⟩, ⟨_, _⟩⟩ := id k
  obtain ⟨e1, e2⟩ := med_q k
  have e3 := mk_pos (n := (rng x y z ex ey ez b).ln + (rng x y z ex ey ez b).hn) (d := (rng x y z ex ey ez b).ld + (rng x y z ex ey ez b).hd) (by omega) ⟨by omega, by omega⟩ (by omega)
  unfold medN medD at *
  rw [e3.1, e3.2, e1, e2, h1, h2, h3, h4]
  generalize (rng ex ey ez x y z b).ln = p at *
  generalize (rng ex ey ez x y z b).ld = q at *
  generalize (rng ex ey ez x y z b).hn = r at *
  generalize (rng ex ey ez x y z b).hd = s at *
  have e4 : s - r + (q - p) = -(p + r) + (q + s) := by omega
  have e5 : s + q = q + s := by omega
  rw [e4, e5, qD_add, qD_neg, qN_add (by omega), qN_neg, qD_neg]
  exact ⟨rfl, by omega⟩
end
/-! ### Moved -/
def mvb (b : Bv) (A : Option Addr) (C : Nat) (x y z : Int) : Bv := ⟨A, C, mv b.xs x y, b.lo + z, b.hi + z⟩
theorem rng_mv (b : Bv) (A : Option Addr) (C : Nat) (ex ey ez x y z u v w : Int) : rng (ex + u) (ey + v) (ez + w) (x + u) (y + v) (z + w) (mvb b A C u v w) = rng ex ey ez x y z b := by
  unfold rng mvb
  rw [cnd_mv]
theorem lin_mv {L M : List Bv} {u v w : Int} (hl : M.length = L.length) (h : ∀ j, j < L.length → ∃ A C, gdB M j = mvb (gdB L j) A C u v w) (ex ey ez x y z i : Int) :
    lin (ex + u) (ey + v) (ez + w) (x + u) (y + v) (z + w) M i = lin ex ey ez x y z L i := by
  have hr : ∀ j, j < L.length → rng (ex + u) (ey + v) (ez + w) (x + u) (y + v) (z + w) (gdB M j) = rng ex ey ez x y z (gdB L j) := fun j hj => by
    obtain ⟨A, C, e⟩ := h j hj
    rw [e, rng_mv]
  have hh : ∀ j, j < L.length → hit (ex + u) (ey + v) (ez + w) (x + u) (y + v) (z + w) (gdB M j) = hit ex ey ez x y z (gdB L j) := fun j hj => by unfold hit; rw [hr j hj]
  have hf : frs (ex + u) (ey + v) (ez + w) (x + u) (y + v) (z + w) M = frs ex ey ez x y z L := by
    by_cases hl' : frs ex ey ez x y z L < L.length
    · exact frs_at (by omega) (by rw [hh _ hl']; exact frs_hit hl') fun j hj => by rw [hh j (by omega)]; exact frs_before hj
    · have := frs_le (ex := ex) (ey := ey) (ez := ez) (x := x) (y := y) (z := z) (L := L)
      have e0 : frs ex ey ez x y z L = L.length := by omega
      rw [e0, ← hl]
      exact frs_none fun j hj => by rw [hh j (by omega)]; exact frs_len.1 e0 j (by omega)
  by_cases hl' : frs ex ey ez x y z L < L.length
  · rw [lin_hit hl', lin_hit (by rw [hf, hl]; exact hl'), hf, hr _ hl']
  · have := frs_le (ex := ex) (ey := ey) (ez := ez) (x := x) (y := y) (z := z) (L := L)
    rw [lin_none (by omega), lin_none (by omega)]
end Go.Proofs.Ytjjimbaogpmbmaa

namespace Go.Proofs.Ytjjimbaogpmbmaa
open Go.ChangeShapes Go.WideShapes Go.ChangeAt Go.RowKit Go.Joins Go.Deep
open Go.RowKit (Below)
set_option linter.unusedVariables false
set_option linter.unusedSimpArgs false

set_option maxRecDepth 100000 in
set_option maxHeartbeats 800000 in
/-- What a slice that comes in gives, and that it reads as it did behind a call that makes memory alone: for whatever elements. -/
theorem open_seq {α : Type} [Inhabited α] {H : Type} {enc : TypeId × Value → H} {W : World} {t e : TypeId} {n : Nat} (ht : Try.prog.underlying t = some (.slice e)) (hn : Try.prog.cellsOf e = n) (hp : 0 < n) (vals : α → List Value) (hv : ∀ a, (vals a).length = n) (Good : α → Prop)
    (elem : ∀ m cs x, DataW.trod enc Try.prog W 0 (fun _ => true) true m e cs = some x → ∃ a, cs = vals a ∧ Good a ∧ ∀ (W' : World) (sp : Nat → Bool), Below W.heap.size W W' → (∀ q ∈ x.2, sp q.block = true) → ∃ n, DataW.trod enc Try.prog W' 0 sp true n e cs = some x)
    {fuel : Nat} {v : Value} {x : DataW H × List MemPlace} (hf : DataW.trod enc Try.prog W 0 (fun _ => true) true fuel t [v] = some x) :
    ∃ (A : Option Addr) (cap : Nat) (L : List α), v = .slice A L.length cap ∧ L.length ≤ cap ∧ cap ≤ maxLen ∧ (A = none → cap = 0) ∧
      (∀ k (hk : k < L.length), ∃ b o, A = some ⟨b, o, none⟩ ∧ (∀ i u, (vals L[k])[i]? = some u → W.cell? ⟨b, o + k * n + i, none⟩ = some u) ∧ Good L[k]) ∧
      ∀ (W' : World) (sp : Nat → Bool), Below W.heap.size W W' → (∀ q ∈ x.2, sp q.block = true) → ∃ n, DataW.trod enc Try.prog W' 0 sp true n t [v] = some x := by
  rcases open_slice ht hf with ⟨hcs, hx⟩ | ⟨a, len, cap, m, n', D, Pl, hcs, _, hl, hm, hmm, hx, hel⟩
  · obtain rfl : v = .slice none 0 0 := by simpa using hcs
    subst hx
    exact ⟨none, 0, [], rfl, Nat.le_refl _, Nat.zero_le _, fun _ => rfl, fun k hk => absurd hk (Nat.not_lt_zero k), fun W' sp _ _ => by obtain ⟨n', t⟩ := shut_slice_nil (P := Try.prog) (enc := enc) (w := W') (base := 0) (spare := sp) (held := true) ht; exact ⟨n', by simpa [Value.cells] using t⟩⟩
  · obtain rfl : v = .slice (some a) len cap := by simpa using hcs
    subst hx
    simp only [if_true] at hmm
    obtain rfl : cap = m := hmm.symm
    have each : ∀ i, i < cap → ∃ q : α, (∀ j u, (vals q)[j]? = some u → W.cell? (a.add (i * n + j)) = some u) ∧ Good q ∧
        ∀ (W' : World) (sp : Nat → Bool), Below W.heap.size W W' → (∀ p ∈ Pl i, sp p.block = true) → ∃ k, DataW.trod enc Try.prog W' 0 sp true k e (vals q) = some (D i, Pl i) := by
      intro i hi
      obtain ⟨cs', h1, h2⟩ := hel i hi
      rw [hn] at h1
      obtain ⟨q, rfl, hg, hb⟩ := elem _ _ _ h2
      obtain ⟨_, hlen, hcell⟩ := World.cells?_some h1
      refine ⟨q, fun j u hj => ?_, hg, hb⟩
      have hjn : j < n := by rw [← hv q]; exact (List.getElem?_eq_some_iff.1 hj).1
      have := hcell j hjn
      rw [add_add] at this
      rw [this, hj]
    obtain ⟨q, hq⟩ := choose_lt each
    have hlen : ((List.range len).map q).length = len := by simp
    have hat : ∀ k (hk : k < ((List.range len).map q).length), ((List.range len).map q)[k] = q k := fun k hk => by simp
    have first : ∀ i, i < cap → ∃ u, (vals (q i))[0]? = some u := fun i hi => ⟨(vals (q i))[0]'(by rw [hv]; exact hp), List.getElem?_eq_getElem _⟩
    have plain : 0 < cap → ∃ b o, a = ⟨b, o, none⟩ := fun hi => by
      obtain ⟨u, hu⟩ := first 0 hi
      have := (hq 0 hi).1 0 u hu
      obtain ⟨b, off, spot⟩ := a
      have hspot : spot = none := by simpa [Addr.add] using World.cell?_spot this
      exact ⟨b, off, by rw [hspot]⟩
    refine ⟨some a, cap, (List.range len).map q, by rw [hlen], by rw [hlen]; exact hl, hm, (fun e => by cases e), ?_, ?_⟩
    · intro k hk
      rw [hat k hk]
      rw [hlen] at hk
      obtain ⟨b, o, rfl⟩ := plain (by omega)
      refine ⟨b, o, rfl, fun i u hu => ?_, (hq k (by omega)).2.1⟩
      have := (hq k (by omega)).1 i u hu
      rwa [add_plain, ← Nat.add_assoc] at this
    · intro W' sp hb hsp
      by_cases hz : cap = 0
      · subst hz
        have hl0 : len = 0 := by omega
        subst hl0
        cases hs : sp a.block with
        | true =>
          obtain ⟨n', t⟩ := shut_slice_whole_cells (enc := enc) (w := W') (base := 0) (spare := sp) (held := true) (a := a) (len := 0) (cap := 0) ht (Nat.zero_le _) (Nat.le_refl _) hm hs D Pl (fun i hi => absurd hi (Nat.not_lt_zero i))
          exact ⟨n', by simpa using t⟩
        | false =>
          obtain ⟨n', t⟩ := shut_slice_cells (enc := enc) (w := W') (base := 0) (spare := sp) (held := true) (a := a) (len := 0) (cap := 0) ht (Nat.zero_le _) (Nat.le_refl _) hm hs D Pl (fun i hi => absurd hi (Nat.not_lt_zero i))
          exact ⟨n', by simpa using t⟩
      · obtain ⟨b, off, rfl⟩ := plain (by omega)
        have hspb : sp b = true := hsp (.cell b off) (List.mem_append.2 (.inl (MemPlace.mem_row.2 ⟨0, by rw [hn]; exact Nat.mul_pos (by omega) hp, by simp⟩)))
        obtain ⟨n', t⟩ := shut_slice_whole_cells (enc := enc) (w := W') (base := 0) (spare := sp) (held := true) (a := ⟨b, off, none⟩) (len := len) (cap := cap) ht (Nat.zero_le _) hl hm hspb D Pl (fun i hi => by
          obtain ⟨h1, _, h3⟩ := hq i hi
          obtain ⟨k, hk⟩ := h3 W' sp hb (fun p hp' => hsp p (List.mem_append.2 (.inr (List.mem_flatMap.2 ⟨i, List.mem_range.2 hi, hp'⟩))))
          refine ⟨vals (q i), k, ?_, hk⟩
          rw [hn, add_plain]
          refine cells?_of (Nat.zero_le _) (hv _) fun j hj => ?_
          have hju : (vals (q i))[j]? = some ((vals (q i))[j]'(by rw [hv]; exact hj)) := List.getElem?_eq_getElem _
          have h4 := h1 j _ hju
          rw [add_plain, ← Nat.add_assoc] at h4
          rw [hju, hb.cell (block_lt h4)]
          exact h4)
        exact ⟨n', t⟩

theorem cellsVec : Try.prog.cellsOf 27 = 3 := by kernel_rfl
theorem cellsRat : Try.prog.cellsOf 39 = 2 := by kernel_rfl
theorem cellsTarget : Try.prog.cellsOf 74 = 4 := by kernel_rfl
theorem cellsLine : Try.prog.cellsOf 70 = 4 := by kernel_rfl
theorem cellsPts : Try.prog.cellsOf 40 = 1 := by kernel_rfl
section
variable {H : Type} {enc : TypeId × Value → H} {W : World} {sp : Nat → Bool} {m : Nat} {cs : List Value} {x : DataW H × List MemPlace}
set_option maxRecDepth 100000 in
theorem vec_back (h : DataW.trod enc Try.prog W 0 sp true m 27 cs = some x) :
    ∃ a b c : Int, cs = [.int .i64 a, .int .i64 b, .int .i64 c] ∧ ∀ (W' : World) (sp' : Nat → Bool), ∃ n, DataW.trod enc Try.prog W' 0 sp' true n 27 cs = some x := by
  obtain ⟨y0, y1, y2, m, rfl, hl, h0, h1, h2⟩ := trod_struct3 Try.underlying27 h
  rw [cellsVec] at hl
  match cs, hl with
  | [v0, v1, v2], _ =>
    simp only [cellsInt, List.drop_zero, List.drop_succ_cons, List.take_succ_cons, List.take_zero] at h0 h1 h2
    have k0 := fun W' sp' => int_back (W' := W') (sp' := sp') h0
    have k1 := fun W' sp' => int_back (W' := W') (sp' := sp') h1
    have k2 := fun W' sp' => int_back (W' := W') (sp' := sp') h2
    obtain ⟨a, rfl, _⟩ := k0 W sp
    obtain ⟨b, rfl, _⟩ := k1 W sp
    obtain ⟨c, rfl, _⟩ := k2 W sp
    refine ⟨a, b, c, rfl, fun W' sp' => ?_⟩
    obtain ⟨_, _, _, _, n0, t0⟩ := k0 W' sp'
    obtain ⟨_, _, _, _, n1, t1⟩ := k1 W' sp'
    obtain ⟨_, _, _, _, n2, t2⟩ := k2 W' sp'
    exact ⟨_, trod_struct3_mk (n := n0 + n1 + n2) Try.underlying27 (by rw [cellsVec]; rfl)
      (by simpa [cellsInt] using DataW.trod_le (show n0 ≤ n0 + n1 + n2 by omega) t0) (by simpa [cellsInt] using DataW.trod_le (show n1 ≤ n0 + n1 + n2 by omega) t1) (by simpa [cellsInt] using DataW.trod_le (show n2 ≤ n0 + n1 + n2 by omega) t2)⟩
set_option maxRecDepth 100000 in
theorem rat_back (h : DataW.trod enc Try.prog W 0 sp true m 39 cs = some x) :
    ∃ a b : Int, cs = [.int .i64 a, .int .i64 b] ∧ (I64 a ∧ I64 b) ∧ ∀ (W' : World) (sp' : Nat → Bool), ∃ n, DataW.trod enc Try.prog W' 0 sp' true n 39 cs = some x := by
  obtain ⟨y0, y1, m, rfl, hl, h0, h1⟩ := trod_struct2 Try.underlying39 h
  rw [cellsRat] at hl
  match cs, hl with
  | [v0, v1], _ =>
    simp only [cellsInt, List.drop_zero, List.drop_succ_cons, List.take_succ_cons, List.take_zero] at h0 h1
    have k0 := fun W' sp' => int_back (W' := W') (sp' := sp') h0
    have k1 := fun W' sp' => int_back (W' := W') (sp' := sp') h1
    obtain ⟨a, rfl, _, wa, _⟩ := k0 W sp
    obtain ⟨b, rfl, _, wb, _⟩ := k1 W sp
    refine ⟨a, b, rfl, ⟨wf_i wa, wf_i wb⟩, fun W' sp' => ?_⟩
    obtain ⟨_, _, _, _, n0, t0⟩ := k0 W' sp'
    obtain ⟨_, _, _, _, n1, t1⟩ := k1 W' sp'
    exact ⟨_, trod_struct2_mk (n := n0 + n1) Try.underlying39 (by rw [cellsRat]; rfl)
      (by simpa [cellsInt] using DataW.trod_le (show n0 ≤ n0 + n1 by omega) t0) (by simpa [cellsInt] using DataW.trod_le (show n1 ≤ n0 + n1 by omega) t1)⟩
/-- The four cells of a target, or of a line. -/
def vals4 (q : Q4) : List Value := [.int .i64 q.a, .int .i64 q.b, .int .i64 q.c, .int .i64 q.d]
set_option maxRecDepth 100000 in
theorem target_back (h : DataW.trod enc Try.prog W 0 sp true m 74 cs = some x) :
    ∃ q : Q4, cs = vals4 q ∧ ∀ (W' : World) (sp' : Nat → Bool), ∃ n, DataW.trod enc Try.prog W' 0 sp' true n 74 cs = some x := by
  obtain ⟨y0, y1, m, rfl, hl, h0, h1⟩ := trod_struct2 Try.underlying74 h
  rw [cellsTarget] at hl
  match cs, hl with
  | [v0, v1, v2, v3], _ =>
    simp only [cellsInt, cellsVec, List.drop_zero, List.drop_succ_cons, List.take_succ_cons, List.take_zero] at h0 h1
    obtain ⟨a, b, c, e, k0⟩ := vec_back h0
    have k1 := fun W' sp' => int_back (W' := W') (sp' := sp') h1
    obtain ⟨d, rfl, _⟩ := k1 W sp
    simp only [List.cons.injEq, and_true] at e
    obtain ⟨rfl, rfl, rfl⟩ := e
    refine ⟨⟨a, b, c, d⟩, rfl, fun W' sp' => ?_⟩
    obtain ⟨n0, t0⟩ := k0 W' sp'
    obtain ⟨_, _, _, _, n1, t1⟩ := k1 W' sp'
    exact ⟨_, trod_struct2_mk (n := n0 + n1) Try.underlying74 (by rw [cellsTarget]; rfl)
      (by simpa [cellsVec] using DataW.trod_le (show n0 ≤ n0 + n1 by omega) t0) (by simpa [cellsInt] using DataW.trod_le (show n1 ≤ n0 + n1 by omega) t1)⟩
set_option maxRecDepth 100000 in
theorem line_back (h : DataW.trod enc Try.prog W 0 sp true m 70 cs = some x) :
    ∃ q : Q4, cs = vals4 q ∧ (I64 q.c ∧ I64 q.d) ∧ ∀ (W' : World) (sp' : Nat → Bool), ∃ n, DataW.trod enc Try.prog W' 0 sp' true n 70 cs = some x := by
  obtain ⟨y0, y1, y2, m, rfl, hl, h0, h1, h2⟩ := trod_struct3 Try.underlying70 h
  rw [cellsLine] at hl
  match cs, hl with
  | [v0, v1, v2, v3], _ =>
    simp only [cellsInt, cellsRat, List.drop_zero, List.drop_succ_cons, List.take_succ_cons, List.take_zero] at h0 h1 h2
    obtain ⟨c, d, e, hcd, k2⟩ := rat_back h2
    have k0 := fun W' sp' => int_back (W' := W') (sp' := sp') h0
    have k1 := fun W' sp' => int_back (W' := W') (sp' := sp') h1
    obtain ⟨a, rfl, _⟩ := k0 W sp
    obtain ⟨b, rfl, _⟩ := k1 W sp
    simp only [List.cons.injEq, and_true] at e
    obtain ⟨rfl, rfl⟩ := e
    refine ⟨⟨a, b, c, d⟩, rfl, hcd, fun W' sp' => ?_⟩
    obtain ⟨_, _, _, _, n0, t0⟩ := k0 W' sp'
    obtain ⟨_, _, _, _, n1, t1⟩ := k1 W' sp'
    obtain ⟨n2, t2⟩ := k2 W' sp'
    exact ⟨_, trod_struct3_mk (n := n0 + n1 + n2) Try.underlying70 (by rw [cellsLine]; rfl)
      (by simpa [cellsInt] using DataW.trod_le (show n0 ≤ n0 + n1 + n2 by omega) t0) (by simpa [cellsInt] using DataW.trod_le (show n1 ≤ n0 + n1 + n2 by omega) t1) (by simpa [cellsRat] using DataW.trod_le (show n2 ≤ n0 + n1 + n2 by omega) t2)⟩
end
/-- The three cells of a body. -/
def vals3 (b : Bv) : List Value := [.slice b.A b.xs.length b.C, .int .i64 b.lo, .int .i64 b.hi]
set_option maxRecDepth 100000 in
theorem body_back {H : Type} {enc : TypeId × Value → H} {W : World} {m : Nat} {cs : List Value} {x : DataW H × List MemPlace} (h : DataW.trod enc Try.prog W 0 (fun _ => true) true m 42 cs = some x) :
    ∃ b : Bv, cs = vals3 b ∧ (SlS W b.A b.xs ∧ b.xs.length ≤ 9223372036854775807) ∧ ∀ (W' : World) (sp : Nat → Bool), Below W.heap.size W W' → (∀ q ∈ x.2, sp q.block = true) → ∃ n, DataW.trod enc Try.prog W' 0 sp true n 42 cs = some x := by
  obtain ⟨y0, y1, y2, m, rfl, hl, h0, h1, h2⟩ := trod_struct3 Try.underlying42 h
  rw [cellsBody] at hl
  match cs, hl with
  | [v0, v1, v2], _ =>
    simp only [cellsInt, cellsPts, List.drop_zero, List.drop_succ_cons, List.take_succ_cons, List.take_zero] at h0 h1 h2
    obtain ⟨A, C, xs, rfl, hl, _, back⟩ := open_pts h0
    have k1 := fun W' sp' => int_back (W' := W') (sp' := sp') h1
    have k2 := fun W' sp' => int_back (W' := W') (sp' := sp') h2
    obtain ⟨lo, rfl, _⟩ := k1 W (fun _ => true)
    obtain ⟨hi, rfl, _⟩ := k2 W (fun _ => true)
    refine ⟨⟨A, C, xs, lo, hi⟩, rfl, ⟨hl.sl, Nat.le_trans hl.cap.1 hl.cap.2⟩, fun W' sp' hb hs => ?_⟩
    obtain ⟨n0, t0⟩ := back W' sp' hb (fun q hq => hs q (List.mem_append.2 (.inl hq)))
    obtain ⟨_, _, _, _, n1, t1⟩ := k1 W' sp'
    obtain ⟨_, _, _, _, n2, t2⟩ := k2 W' sp'
    exact ⟨_, trod_struct3_mk (n := n0 + n1 + n2) Try.underlying42 (by rw [cellsBody]; rfl)
      (by simpa [cellsPts] using DataW.trod_le (show n0 ≤ n0 + n1 + n2 by omega) t0) (by simpa [cellsInt] using DataW.trod_le (show n1 ≤ n0 + n1 + n2 by omega) t1) (by simpa [cellsInt] using DataW.trod_le (show n2 ≤ n0 + n1 + n2 by omega) t2)⟩

/-- A slice of bodies that came in. -/
structure LB (w : World) (A : Option Addr) (C : Nat) (L : List Bv) : Prop where
  sl : BdS w A L
  len : ∀ k, k < L.length → (gdB L k).xs.length ≤ 9223372036854775807
  cap : L.length ≤ C ∧ C ≤ maxLen
  nil : A = none → C = 0
/-- A slice of quadruples that came in. -/
structure L4 (w : World) (A : Option Addr) (C : Nat) (T : List Q4) : Prop where
  sl : S4 w A T
  cap : T.length ≤ C ∧ C ≤ maxLen
  nil : A = none → C = 0
theorem LB.below {w w' : World} {A : Option Addr} {C : Nat} {L : List Bv} (h : LB w A C L) (hb : Below w.heap.size w w') : LB w' A C L := ⟨h.sl.below hb, h.len, h.cap, h.nil⟩
theorem L4.below {w w' : World} {A : Option Addr} {C : Nat} {T : List Q4} (h : L4 w A C T) (hb : Below w.heap.size w w') : L4 w' A C T := ⟨h.sl.below hb, h.cap, h.nil⟩
instance : Inhabited Bv := ⟨⟨none, 0, [], 0, 0⟩⟩
instance : Inhabited Q4 := ⟨⟨0, 0, 0, 0⟩⟩
section
variable {H : Type} {enc : TypeId × Value → H} {W : World} {base : Nat} {v : Value} {d : DataW H} {p : List MemPlace}
set_option maxRecDepth 100000 in
theorem open_bodies (hv : Value.okWide Try.prog W .any base 34 v) (h : DataW.Trod enc Try.prog W 0 (fun _ => true) true 34 v d p) :
    ∃ (A : Option Addr) (cap : Nat) (L : List Bv), v = .slice A L.length cap ∧ LB W A cap L ∧
      ∀ (W' : World) (sp : Nat → Bool), Below W.heap.size W W' → (∀ q ∈ p, sp q.block = true) → DataW.Trod enc Try.prog W' 0 sp true 34 v d p := by
  obtain ⟨a0, len, cap, rfl⟩ := okWide_slice Try.underlying34 hv
  obtain ⟨fuel, hf⟩ := h
  simp only [Value.cells] at hf
  obtain ⟨A, C, L, e, h1, h2, h3, h4, h5⟩ := open_seq Try.underlying34 cellsBody (by omega) vals3 (fun _ => rfl) (fun b => SlS W b.A b.xs ∧ b.xs.length ≤ 9223372036854775807) (fun m cs x h => body_back h) hf
  refine ⟨A, C, L, e, ⟨fun k hk => ?_, (fun k hk => by rw [gdB_at hk]; obtain ⟨_, _, _, _, hg⟩ := h4 k hk; exact hg.2), ⟨h1, h2⟩, h3⟩, fun W' sp hb hs => ?_⟩
  · obtain ⟨b, o, e, hc, hg⟩ := h4 k hk
    rw [gdB_at hk]
    exact ⟨b, o, e, hc 0 _ rfl, hc 1 _ rfl, hc 2 _ rfl, hg.1⟩
  · obtain ⟨n, t⟩ := h5 W' sp hb hs
    exact ⟨n, by simpa [Value.cells] using t⟩
set_option maxRecDepth 100000 in
theorem open_targets (hv : Value.okWide Try.prog W .any base 57 v) (h : DataW.Trod enc Try.prog W 0 (fun _ => true) true 57 v d p) :
    ∃ (A : Option Addr) (cap : Nat) (L : List Q4), v = .slice A L.length cap ∧ L4 W A cap L ∧
      ∀ (W' : World) (sp : Nat → Bool), Below W.heap.size W W' → (∀ q ∈ p, sp q.block = true) → DataW.Trod enc Try.prog W' 0 sp true 57 v d p := by
  obtain ⟨a0, len, cap, rfl⟩ := okWide_slice Try.underlying57 hv
  obtain ⟨fuel, hf⟩ := h
  simp only [Value.cells] at hf
  obtain ⟨A, C, L, e, h1, h2, h3, h4, h5⟩ := open_seq Try.underlying57 cellsTarget (by omega) vals4 (fun _ => rfl) (fun _ => True) (fun m cs x h => by obtain ⟨q, e, k⟩ := target_back h; exact ⟨q, e, trivial, fun W' sp _ _ => k W' sp⟩) hf
  refine ⟨A, C, L, e, ⟨fun k hk => ?_, ⟨h1, h2⟩, h3⟩, fun W' sp hb hs => ?_⟩
  · obtain ⟨b, o, e, hc, hg⟩ := h4 k hk
    rw [gd4_at hk]
    exact ⟨b, o, e, hc 0 _ rfl, hc 1 _ rfl, hc 2 _ rfl, hc 3 _ rfl⟩
  · obtain ⟨n, t⟩ := h5 W' sp hb hs
    exact ⟨n, by simpa [Value.cells] using t⟩
set_option maxRecDepth 100000 in
theorem open_lines (hv : Value.okWide Try.prog W .any base 58 v) (h : DataW.Trod enc Try.prog W 0 (fun _ => true) true 58 v d p) :
    ∃ (A : Option Addr) (cap : Nat) (L : List Q4), v = .slice A L.length cap ∧ L4 W A cap L ∧ (∀ k, k < L.length → I64 (gd4 L k).c ∧ I64 (gd4 L k).d) ∧
      ∀ (W' : World) (sp : Nat → Bool), Below W.heap.size W W' → (∀ q ∈ p, sp q.block = true) → DataW.Trod enc Try.prog W' 0 sp true 58 v d p := by
  obtain ⟨a0, len, cap, rfl⟩ := okWide_slice Try.underlying58 hv
  obtain ⟨fuel, hf⟩ := h
  simp only [Value.cells] at hf
  obtain ⟨A, C, L, e, h1, h2, h3, h4, h5⟩ := open_seq Try.underlying58 cellsLine (by omega) vals4 (fun _ => rfl) (fun q => I64 q.c ∧ I64 q.d) (fun m cs x h => by obtain ⟨q, e, hg, k⟩ := line_back h; exact ⟨q, e, hg, fun W' sp _ _ => k W' sp⟩) hf
  refine ⟨A, C, L, e, ⟨fun k hk => ?_, ⟨h1, h2⟩, h3⟩, (fun k hk => by rw [gd4_at hk]; obtain ⟨_, _, _, _, hg⟩ := h4 k hk; exact hg), fun W' sp hb hs => ?_⟩
  · obtain ⟨b, o, e, hc, hg⟩ := h4 k hk
    rw [gd4_at hk]
    exact ⟨b, o, e, hc 0 _ rfl, hc 1 _ rfl, hc 2 _ rfl, hc 3 _ rfl⟩
  · obtain ⟨n, t⟩ := h5 W' sp hb hs
    exact ⟨n, by simpa [Value.cells] using t⟩
end
end Go.Proofs.Ytjjimbaogpmbmaa

namespace Go.Proofs.Ytjjimbaogpmbmaa
open Go.RowKit
open Go.RowKit (Below)
set_option linter.unusedVariables false
set_option linter.unusedSimpArgs false

theorem boxes1 (W : World) (o0 : Obj) {V : World} (hV : (W.alloc o0) = V) : Below W.heap.size W V ∧ V.heap[W.heap.size]? = some o0 := by
  subst hV
  exact ⟨(Below.refl _ W).alloc (Nat.le_refl _) _, World.alloc_heap_new _ _⟩
theorem wrg_ex (ex ey ez : Int) (T : List Q4) (L : List Bv) : ∃ E, Wrg ex ey ez T L E := by
  classical
  by_cases h : 60 < T.length ∨ 60 < L.length
  · exact ⟨2, Or.inl ⟨h, rfl⟩⟩
  · by_cases k : Tok T ∧ Sut ex ey ez T ∧ Bds L
    · exact ⟨0, Or.inr (Or.inr ⟨by omega, by omega, k.1, k.2.1, k.2.2, rfl⟩)⟩
    · exact ⟨1, Or.inr (Or.inl ⟨by omega, by omega, k, rfl⟩)⟩
theorem wrg_zero {ex ey ez : Int} {T : List Q4} {L : List Bv} (h : Wrg ex ey ez T L 0) : Tok T ∧ Sut ex ey ez T ∧ Bds L := by
  rcases h with ⟨_, h⟩ | ⟨_, _, _, h⟩ | ⟨_, _, h1, h2, h3, _⟩
  · cases h
  · cases h
  · exact ⟨h1, h2, h3⟩
theorem wrg_fun {ex ey ez : Int} {T : List Q4} {L : List Bv} {E F : Int} (h : Wrg ex ey ez T L E) (k : Wrg ex ey ez T L F) : E = F := by
  rcases h with ⟨h, rfl⟩ | ⟨h1, h2, h3, rfl⟩ | ⟨h1, h2, h3, h4, h5, rfl⟩ <;> rcases k with ⟨k, rfl⟩ | ⟨k1, k2, k3, rfl⟩ | ⟨k1, k2, k3, k4, k5, rfl⟩ <;> first | rfl | omega | exact absurd ⟨k3, k4, k5⟩ h3 | exact absurd ⟨h3, h4, h5⟩ k3
theorem wrg_one {ex ey ez : Int} {q : Q4} {L : List Bv} (hl : L.length ≤ 60) (h1 : Tok [q]) (h2 : Sut ex ey ez [q]) (h3 : Bds L) : Wrg ex ey ez [q] L 0 := Or.inr (Or.inr ⟨by simp, hl, h1, h2, h3, rfl⟩)
theorem few_bsm {n : Nat} {L : List Bv} (h : Few n L) : Bsm L := fun k hk => by have := h.2.2 k hk; omega
end Go.Proofs.Ytjjimbaogpmbmaa
