/-
  Plain facts for layer 11: scenes in memory; pieces that are valid; the hundredths that are seen. Plain facts for the laws of layer 11: what is seen past more bodies, past the same bodies in another order, past moved ones; averages. Out of the texts of layer 1: package rational's Mul and Div. slices.ContainsFunc at scenes; package scene: areBodies, areTargets.
-/
import Derived.Test.YtiffgcipdamngaaZSgtZD
import Derived.Test.YtiffgcipdamngaaZSgtZE
import Derived.LoopN
namespace Go.Proofs.Ytiffgcipdamngaa
open Go.RowKit
open Go.RowKit (Below)
set_option linter.unusedVariables false
set_option linter.unusedSimpArgs false

/-! ### What lies in memory -/
structure Sv where
  m : Int
  BA : Option Addr
  BC : Nat
  bs : List Bv
  TA : Option Addr
  TC : Nat
  ts : List Q4
def gdV (L : List Sv) (k : Nat) : Sv := L.getD k ⟨0, none, 0, [], none, 0, []⟩
theorem gdV_at {L : List Sv} {k : Nat} (h : k < L.length) : gdV L k = L[k] := by unfold gdV; rw [List.getD_eq_getElem?_getD, List.getElem?_eq_getElem h]; rfl
/-- A slice of scenes that can be read. -/
def SvS (w : World) (A : Option Addr) (L : List Sv) : Prop :=
  ∀ k, k < L.length → ∃ b o, A = some ⟨b, o, none⟩ ∧ w.cell? ⟨b, o + k * 3, none⟩ = some (.int .i64 (gdV L k).m) ∧
    w.cell? ⟨b, o + k * 3 + 1, none⟩ = some (.slice (gdV L k).BA (gdV L k).bs.length (gdV L k).BC) ∧
    w.cell? ⟨b, o + k * 3 + 2, none⟩ = some (.slice (gdV L k).TA (gdV L k).ts.length (gdV L k).TC) ∧
    BdS w (gdV L k).BA (gdV L k).bs ∧ S4 w (gdV L k).TA (gdV L k).ts
theorem SvS.below {w w' : World} {A : Option Addr} {L : List Sv} (h : SvS w A L) (hb : Below w.heap.size w w') : SvS w' A L := fun k hk => by
  obtain ⟨b, o, e, h1, h2, h3, h4, h5⟩ := h k hk
  exact ⟨b, o, e, cell_low hb h1, cell_low hb h2, cell_low hb h3, h4.below hb, h5.below hb⟩
theorem SvS.nil (w : World) (A : Option Addr) : SvS w A [] := fun k hk => absurd hk (Nat.not_lt_zero k)
/-- How long lists are. -/
structure Sml (S : List Bv) (N : List Sv) : Prop where
  s : S.length ≤ 1000
  n : N.length ≤ 1000
  b : ∀ k, k < N.length → (gdV N k).bs.length ≤ 1000
  t : ∀ k, k < N.length → (gdV N k).ts.length ≤ 1000

/-! ### What is valid -/
/-- The targets of a scene. -/
def Twt (T : List Q4) : Prop := T.length ≤ 60 ∧ (∀ k, k < T.length → tgb (gd4 T k) = false) ∧ wsum T T.length = 100
/-- A scene, but for the number of bodies. -/
def Sco (s : Sv) : Prop := 1 ≤ s.m ∧ s.m ≤ 600 ∧ Twt s.ts ∧ Bds s.bs
/-- At most 60 bodies for each scene, with n others. -/
def Lim (s n : Nat) (N : List Sv) : Prop := ∀ k, k < N.length → s + (gdV N k).bs.length + n ≤ 60
def Pok (S : List Bv) (N : List Sv) : Prop := 0 < N.length ∧ N.length ≤ 20 ∧ Lim S.length 0 N ∧ Bds S ∧ ∀ k, k < N.length → Sco (gdV N k)
/-- The eye is at no target. -/
def Eyo (ex ey ez : Int) (T : List Q4) : Prop := ∀ k, k < T.length → ¬ ((gd4 T k).a = ex ∧ (gd4 T k).b = ey ∧ (gd4 T k).c = ez)
def Ok3 (S : List Bv) (N : List Sv) (ex ey ez : Int) (O : List Bv) : Prop := Pok S N ∧ V3 ex ey ez ∧ Bds O ∧ ∀ k, k < N.length → Eyo ex ey ez (gdV N k).ts
/-- The error of Shares, Total and Worst. -/
def ScE (S : List Bv) (N : List Sv) (ex ey ez : Int) (O : List Bv) (E : Int) : Prop :=
  (¬ Ok3 S N ex ey ez O ∧ E = 1) ∨ (Ok3 S N ex ey ez O ∧ ¬ Lim S.length O.length N ∧ E = 2) ∨ (Ok3 S N ex ey ez O ∧ Lim S.length O.length N ∧ E = 0)
section
variable {S : List Bv} {N : List Sv} {ex ey ez : Int} {O : List Bv} {E F : Int} {T : List Q4}
theorem sce_ex (S : List Bv) (N : List Sv) (ex ey ez : Int) (O : List Bv) : ∃ E, ScE S N ex ey ez O E := by
  classical
  by_cases h : Ok3 S N ex ey ez O
  · by_cases k : Lim S.length O.length N
    · exact ⟨0, Or.inr (Or.inr ⟨h, k, rfl⟩)⟩
    · exact ⟨2, Or.inr (Or.inl ⟨h, k, rfl⟩)⟩
  · exact ⟨1, Or.inl ⟨h, rfl⟩⟩
theorem sce_zero (h : ScE S N ex ey ez O 0) : Ok3 S N ex ey ez O ∧ Lim S.length O.length N := by
  rcases h with ⟨_, h⟩ | ⟨_, _, h⟩ | ⟨h, k, _⟩
  · cases h
  · cases h
  · exact ⟨h, k⟩
theorem sce_fun (h : ScE S N ex ey ez O E) (k : ScE S N ex ey ez O F) : E = F := by
  rcases h with ⟨h, rfl⟩ | ⟨h, h', rfl⟩ | ⟨h, h', rfl⟩ <;> rcases k with ⟨k, rfl⟩ | ⟨k, k', rfl⟩ | ⟨k, k', rfl⟩ <;> first | rfl | exact absurd h k | exact absurd k h | exact absurd h' k' | exact absurd k' h'
theorem twt_tok (h : Twt T) : Tok T := by
  refine ⟨?_, h.2.1⟩
  rcases Nat.eq_zero_or_pos T.length with e | e
  · have := h.2.2; rw [e] at this; cases this
  · exact e
end

/-! ### What is seen -/
/-- All bodies of a scene. -/
def alb (S : List Bv) (s : Sv) (O : List Bv) : List Bv := S ++ s.bs ++ O
theorem alb_len (S : List Bv) (s : Sv) (O : List Bv) : (alb S s O).length = S.length + s.bs.length + O.length := by unfold alb; rw [List.length_append, List.length_append]
/-- The hundredths that are seen of a scene. -/
def shn (ex ey ez : Int) (S : List Bv) (O : List Bv) (s : Sv) : Int := ssum s.ts (lns ex ey ez s.ts (alb S s O)) s.ts.length



theorem shn_bd (ex ey ez : Int) (S O : List Bv) {s : Sv} (h : Twt s.ts) : 0 ≤ shn ex ey ez S O s ∧ shn ex ey ez S O s ≤ 100 := by
  obtain ⟨h1, h2, _, _⟩ := sum_bd (N := lns ex ey ez s.ts (alb S s O)) (twt_tok h) s.ts.length (Nat.le_refl _)
  rw [h.2.2] at h2
  exact ⟨h1, h2⟩
/-- The minutes of the first scenes; their hundredths, times their minutes. -/
def msum (N : List Sv) : Nat → Int
  | 0 => 0
  | k + 1 => msum N k + (gdV N k).m
def tsum (f : Sv → Int) (N : List Sv) : Nat → Int
  | 0 => 0
  | k + 1 => tsum f N k + f (gdV N k) * (gdV N k).m
theorem msum_bd {N : List Sv} (h : ∀ k, k < N.length → Sco (gdV N k)) : ∀ k, k ≤ N.length → (k : Int) ≤ msum N k ∧ msum N k ≤ 600 * k
  | 0, _ => ⟨by simp [msum], by simp [msum]⟩
  | k + 1, hk => by
    obtain ⟨h1, h2⟩ := msum_bd h k (by omega)
    obtain ⟨m1, m2, _⟩ := h k (by omega)
    unfold msum
    exact ⟨by omega, by omega⟩
theorem tsum_bd {f : Sv → Int} {N : List Sv} (h : ∀ k, k < N.length → Sco (gdV N k)) (hf : ∀ k, k < N.length → 0 ≤ f (gdV N k) ∧ f (gdV N k) ≤ 100) : ∀ k, k ≤ N.length → 0 ≤ tsum f N k ∧ tsum f N k ≤ 100 * msum N k
  | 0, _ => ⟨by simp [tsum], by simp [tsum, msum]⟩
  | k + 1, hk => by
    obtain ⟨h1, h2⟩ := tsum_bd h hf k (by omega)
    obtain ⟨m1, m2, _⟩ := h k (by omega)
    obtain ⟨f1, f2⟩ := hf k (by omega)
    unfold tsum msum
    have a : 0 ≤ f (gdV N k) * (gdV N k).m := Int.mul_nonneg f1 (by omega)
    have b : f (gdV N k) * (gdV N k).m ≤ 100 * (gdV N k).m := Int.mul_le_mul_of_nonneg_right f2 (by omega)
    exact ⟨by omega, by omega⟩
/-- The first of the first scenes with the least share. -/
def fle (f : Sv → Int) (N : List Sv) : Nat → Nat
  | 0 => 0
  | k + 1 => if k = 0 then 0 else if f (gdV N k) < f (gdV N (fle f N k)) then k else fle f N k
theorem fle_le (f : Sv → Int) (N : List Sv) : ∀ k, 0 < k → fle f N k < k
  | k + 1, _ => by
    unfold fle
    split
    · omega
    · split
      · omega
      · have := fle_le f N k (by omega); omega


/-! ### Quotients -/
theorem q_val (a b : Int) : qN a b * b = a * qD a b := by
  have h1 := qN_mul a b
  have h2 := qD_mul a b
  generalize qN a b = n at *
  generalize qD a b = d at *
  generalize gq a b = g at *
  subst h1 h2
  grind
theorem gq_scale {a b k : Int} (hk : 0 < k) : gq (a * k) (b * k) = gq a b * k := by
  unfold gq
  rw [Int.natAbs_mul, Int.natAbs_mul, Nat.gcd_mul_right, Int.natCast_mul, Int.natAbs_of_nonneg (Int.le_of_lt hk)]
theorem q_scale {a b k : Int} (hk : 0 < k) : qN (a * k) (b * k) = qN a b ∧ qD (a * k) (b * k) = qD a b := by
  unfold qN qD
  rw [gq_scale hk]
  exact ⟨Int.mul_ediv_mul_of_pos_left _ _ hk, Int.mul_ediv_mul_of_pos_left _ _ hk⟩
/-- The same value: the same quotient. -/
theorem q_same {a b c d : Int} (hb : 0 < b) (hd : 0 < d) (h : a * d = c * b) : qN a b = qN c d ∧ qD a b = qD c d := by
  have h1 := q_scale (a := a) (b := b) hd
  have h2 := q_scale (a := c) (b := d) hb
  rw [show d * b = b * d from Int.mul_comm _ _, ← h] at h2
  exact ⟨h1.1.symm.trans h2.1, h1.2.symm.trans h2.2⟩
theorem mkq_ok {n d : Int} (hd : 0 < d) (hn : -1000000000 ≤ n ∧ n ≤ 1000000000) (hd2 : d ≤ 1000000000) : mkE n d = 0 := by
  have h1 : n.natAbs / cd n d ≤ n.natAbs := Nat.div_le_self _ _
  have h2 : d.natAbs / cd n d ≤ d.natAbs := Nat.div_le_self _ _
  unfold mkE
  rw [if_neg (by omega), if_neg (by omega)]
theorem mkq {n d : Int} (hd : 0 < d) (hn : -1000000000 ≤ n ∧ n ≤ 1000000000) (hd2 : d ≤ 1000000000) : mkE n d = 0 ∧ mkN n d = qN n d ∧ mkD n d = qD n d := by
  have h0 := mkq_ok hd hn hd2
  refine ⟨h0, ?_⟩
  unfold mkN mkD
  rw [if_pos h0, if_pos h0]
  have e1 : (cd n d : Int) ∣ n := by rw [← gq_cd]; exact gq_dvd1 n d
  have e2 : (cd n d : Int) ∣ d := by rw [← gq_cd]; exact gq_dvd2 n d
  unfold rn rd qN qD
  rw [gq_cd, abs_div e1, abs_div e2, if_pos (show 0 ≤ d by omega)]
  refine ⟨?_, rfl⟩
  by_cases h : 0 ≤ n
  · rw [if_pos (show (n < 0) ↔ (d < 0) by omega), if_pos h]
  · rw [if_neg (show ¬ ((n < 0) ↔ (d < 0)) by omega), if_neg h, Int.neg_ediv_of_dvd e1, Int.neg_neg]
theorem q_bd2 {a b : Int} (hb : 0 < b) : 0 < qD a b ∧ qD a b ≤ b ∧ (0 ≤ a → 0 ≤ qN a b ∧ qN a b ≤ a) := by
  have hg := gq_pos (a := a) hb
  have h0 := qD_pos (a := a) hb
  have h1 := qN_mul a b
  have h2 := qD_mul a b
  refine ⟨h0, ?_, fun ha => ?_⟩
  · have : qD a b * 1 ≤ qD a b * gq a b := Int.mul_le_mul_of_nonneg_left (by omega) (by omega)
    omega
  · have hn : 0 ≤ qN a b := Int.ediv_nonneg ha (by omega)
    have : qN a b * 1 ≤ qN a b * gq a b := Int.mul_le_mul_of_nonneg_left (by omega) hn
    exact ⟨hn, by omega⟩
end Go.Proofs.Ytiffgcipdamngaa

namespace Go.Proofs.Ytiffgcipdamngaa
set_option linter.unusedVariables false
set_option linter.unusedSimpArgs false

/-- A target is seen past bodies. -/
def Sen (ex ey ez : Int) (q : Q4) (L : List Bv) : Prop := ∀ b ∈ L, hit ex ey ez q.a q.b q.c b = false
section
variable {ex ey ez x y z : Int} {L M : List Bv} {q : Q4} {i : Int} {T T' K K' : List Q4}
theorem lin_sen : (lin ex ey ez q.a q.b q.c L i).b = -1 ↔ Sen ex ey ez q L := by
  rw [(lin_b i).1, frs_len]
  constructor
  · intro h b hb
    obtain ⟨j, hj, rfl⟩ := List.getElem_of_mem hb
    have := h j hj
    rwa [gdB_at hj] at this
  · intro h j hj
    rw [gdB_at hj]
    exact h _ (List.getElem_mem hj)
theorem ssum_congr : ∀ n, (∀ k, k < n → (gd4 T k).d = (gd4 T' k).d) → (∀ k, k < n → ((gd4 K k).b = -1 ↔ (gd4 K' k).b = -1)) → ssum T K n = ssum T' K' n
  | 0, _, _ => rfl
  | n + 1, h, k => by
    unfold ssum
    rw [ssum_congr n (fun j hj => h j (by omega)) (fun j hj => k j (by omega)), h n (by omega)]
    have := k n (by omega)
    by_cases e : (gd4 K n).b = -1
    · rw [if_pos e, if_pos (this.1 e)]
    · rw [if_neg e, if_neg (fun h => e (this.2 h))]


end
section
variable {ex ey ez : Int} {S S' : List Bv} {N N' : List Sv} {O O' : List Bv} {s s' : Sv}
theorem shn_eq (h1 : s'.ts = s.ts) (h2 : ∀ b, b ∈ alb S' s' O' ↔ b ∈ alb S s O) : shn ex ey ez S' O' s' = shn ex ey ez S O s := by
  unfold shn
  rw [h1]
  refine ssum_congr _ (fun k hk => rfl) fun k hk => ?_
  rw [lns_at hk, lns_at hk, lin_sen, lin_sen]
  exact ⟨fun h b hb => h b ((h2 b).2 hb), fun h b hb => h b ((h2 b).1 hb)⟩






end

/-! ### Averages -/
section
variable {f : Sv → Int} {N : List Sv}



end
/-- Comparing quotients. -/
theorem sgn_q {a b c d : Int} (hb : 0 < b) (hd : 0 < d) : sgn (qN a b * qD c d) (qN c d * qD a b) = sgn (a * d) (c * b) := by
  have p := qD_pos (a := a) hb
  have e1 : qN a b * qD c d < qN c d * qD a b ↔ a * d < c * b := by
    rw [lt_q hb, q_lt hd]
  have e2 : qN c d * qD a b < qN a b * qD c d ↔ c * b < a * d := by
    rw [lt_q hd, q_lt hb]
  unfold sgn
  simp only [e1, e2]
end Go.Proofs.Ytiffgcipdamngaa

namespace Go.Proofs.Ytiffgcipdamngaa
open Go.RowKit Go.Sort
open Go.RowKit (Below)
set_option linter.unusedVariables false
set_option linter.unusedSimpArgs false

set_option maxHeartbeats 400000 in
theorem times_any (a b c d : Int) (w : World) (ha : Bd a) (hb : Bd b) (hc : Bd c) (hd : Bd d) :
    Calls Try.prog 33 #[.agg #[.int .i64 a, .int .i64 b], .agg #[.int .i64 c, .int .i64 d]] w fun e w' => e = .returned (.tuple #[.int .i64 (a * c), .int .i64 (b * d)]) ∧ Below w.heap.size w w' := by
  go_enter Try.func33, Try.ntmps33
  go_wp2
  go_quiet (fail)
  go_wp2
  go_ret2
  exact ⟨ret2_int (mul_wrap ha hc) (mul_wrap hb hd), below_drewN' (((Below.refl _ _).alloc (Nat.le_refl _) _).alloc (by simp) _) _⟩
set_option maxHeartbeats 400000 in
theorem over_any (a b c d : Int) (w : World) (ha : Bd a) (hb : Bd b) (hc : Bd c) (hd : Bd d) :
    Calls Try.prog 35 #[.agg #[.int .i64 a, .int .i64 b], .agg #[.int .i64 c, .int .i64 d]] w fun e w' => e = .returned (.tuple #[.int .i64 (a * d), .int .i64 (b * c)]) ∧ Below w.heap.size w w' := by
  go_enter Try.func35, Try.ntmps35
  go_wp2
  go_quiet (fail)
  go_wp2
  go_ret2
  exact ⟨ret2_int (mul_wrap ha hd) (mul_wrap hb hc), below_drewN' (((Below.refl _ _).alloc (Nat.le_refl _) _).alloc (by simp) _) _⟩
theorem mul_hop (a b c d : Int) : (vld a b && vld c d) = true → I64 (a * c) ∧ I64 (b * d) ∧ ∀ W, Calls Try.prog 33 #[.agg #[.int .i64 a, .int .i64 b], .agg #[.int .i64 c, .int .i64 d]] W fun e W' => e = .returned (.tuple #[.int .i64 (a * c), .int .i64 (b * d)]) ∧ Below W.heap.size W W' := by
  intro h
  obtain ⟨ha, hb, hc, hd⟩ := vld2 h
  exact ⟨mul_i ha hc, mul_i hb hd, fun W => times_any a b c d W ha hb hc hd⟩
set_option maxRecDepth 100000 in
set_option maxHeartbeats 400000 in
theorem rmul_any (a b c d : Int) (w : World) (ha : I64 a) (hb : I64 b) (hc : I64 c) (hd : I64 d) :
    Calls Try.prog 15 #[.agg #[.int .i64 a, .int .i64 b], .agg #[.int .i64 c, .int .i64 d]] w
      fun e w' => e = .returned (.tuple #[.agg #[.int .i64 (opN (vld a b && vld c d) (a * c) (b * d)), .int .i64 (opD (vld a b && vld c d) (a * c) (b * d))], .int .i64 (opE (vld a b && vld c d) (a * c) (b * d))]) ∧ Below w.heap.size w w' := by
  have hat := fun W0 => rcombine_any 33 a b c d (a * c) (b * d) W0 ha hb hc hd (fun W args => by simp [go_sem]) (mul_hop a b c d)
  have HA := Lib.hid hat; clear hat
  generalize opN (vld a b && vld c d) (a * c) (b * d) = rN at *
  generalize opD (vld a b && vld c d) (a * c) (b * d) = rD at *
  generalize opE (vld a b && vld c d) (a * c) (b * d) = rE at *
  go_enter Try.func15, Try.ntmps15
  go_wp2_with fail
  refine (HA.out _).mono ?_
  rintro e w1 ⟨rfl, hb⟩
  obtain ⟨h1, h2⟩ := bcell hb
  have z0 : w1.cell? ⟨w.heap.size + 1 + 1, 0, none⟩ = some (.int .i64 0) := by rw [h1 _ _ (by simp)]; simp [go_sem]
  have z1 : w1.cell? ⟨w.heap.size + 1 + 1, 1, none⟩ = some (.int .i64 0) := by rw [h1 _ _ (by simp)]; simp [go_sem]
  have f0 : w1.frozen? ⟨w.heap.size + 1 + 1, 0, none⟩ = false := by rw [h2 _ _ (by simp)]; simp [go_sem]
  have f1 : w1.frozen? ⟨w.heap.size + 1 + 1, 1, none⟩ = false := by rw [h2 _ _ (by simp)]; simp [go_sem]
  clear h1 h2
  go_wp2_with fail
  refine bodyPost_ret (v := .tuple #[.agg #[.int .i64 rN, .int .i64 rD], .int .i64 rE]) (by simp [results, Try.results15, go_sem, z0, z1]) rfl ⟨rfl, ?_⟩
  exact ((((((Below.refl _ _).alloc (Nat.le_refl _) _).alloc (by simp) _).alloc (by simp; omega) _).trans (hb.mono (by simp; omega))).setCell (by simp; omega) _).setCell (by simp; omega) _
theorem div_hop (a b c d : Int) : (vld a b && vld c d) = true → I64 (a * d) ∧ I64 (b * c) ∧ ∀ W, Calls Try.prog 35 #[.agg #[.int .i64 a, .int .i64 b], .agg #[.int .i64 c, .int .i64 d]] W fun e W' => e = .returned (.tuple #[.int .i64 (a * d), .int .i64 (b * c)]) ∧ Below W.heap.size W W' := by
  intro h
  obtain ⟨ha, hb, hc, hd⟩ := vld2 h
  exact ⟨mul_i ha hd, mul_i hb hc, fun W => over_any a b c d W ha hb hc hd⟩
set_option maxRecDepth 100000 in
set_option maxHeartbeats 400000 in
theorem rdiv_any (a b c d : Int) (w : World) (ha : I64 a) (hb : I64 b) (hc : I64 c) (hd : I64 d) :
    Calls Try.prog 17 #[.agg #[.int .i64 a, .int .i64 b], .agg #[.int .i64 c, .int .i64 d]] w
      fun e w' => e = .returned (.tuple #[.agg #[.int .i64 (opN (vld a b && vld c d) (a * d) (b * c)), .int .i64 (opD (vld a b && vld c d) (a * d) (b * c))], .int .i64 (opE (vld a b && vld c d) (a * d) (b * c))]) ∧ Below w.heap.size w w' := by
  have hat := fun W0 => rcombine_any 35 a b c d (a * d) (b * c) W0 ha hb hc hd (fun W args => by simp [go_sem]) (div_hop a b c d)
  have HA := Lib.hid hat; clear hat
  generalize opN (vld a b && vld c d) (a * d) (b * c) = rN at *
  generalize opD (vld a b && vld c d) (a * d) (b * c) = rD at *
  generalize opE (vld a b && vld c d) (a * d) (b * c) = rE at *
  go_enter Try.func17, Try.ntmps17
  go_wp2_with fail
  refine (HA.out _).mono ?_
  rintro e w1 ⟨rfl, hb⟩
  obtain ⟨h1, h2⟩ := bcell hb
  have z0 : w1.cell? ⟨w.heap.size + 1 + 1, 0, none⟩ = some (.int .i64 0) := by rw [h1 _ _ (by simp)]; simp [go_sem]
  have z1 : w1.cell? ⟨w.heap.size + 1 + 1, 1, none⟩ = some (.int .i64 0) := by rw [h1 _ _ (by simp)]; simp [go_sem]
  have f0 : w1.frozen? ⟨w.heap.size + 1 + 1, 0, none⟩ = false := by rw [h2 _ _ (by simp)]; simp [go_sem]
  have f1 : w1.frozen? ⟨w.heap.size + 1 + 1, 1, none⟩ = false := by rw [h2 _ _ (by simp)]; simp [go_sem]
  clear h1 h2
  go_wp2_with fail
  refine bodyPost_ret (v := .tuple #[.agg #[.int .i64 rN, .int .i64 rD], .int .i64 rE]) (by simp [results, Try.results17, go_sem, z0, z1]) rfl ⟨rfl, ?_⟩
  exact ((((((Below.refl _ _).alloc (Nat.le_refl _) _).alloc (by simp) _).alloc (by simp; omega) _).trans (hb.mono (by simp; omega))).setCell (by simp; omega) _).setCell (by simp; omega) _

theorem q_i64 {a b : Int} (hb : 0 < b) (ha : 0 ≤ a) (h1 : a ≤ 1000000000) (h2 : b ≤ 1000000000) : I64 (qN a b) ∧ I64 (qD a b) := by
  obtain ⟨d1, d2, h⟩ := q_bd2 (a := a) hb
  obtain ⟨n1, n2⟩ := h ha
  exact ⟨⟨by omega, by omega⟩, by omega, by omega⟩
theorem one_vld {n : Int} (h1 : 0 ≤ n) (h2 : n ≤ 100000000) : vld n 1 = true := (vld_iff _ _).2 ⟨by omega, by omega, by omega, by omega, by show Nat.gcd _ 1 = 1; exact Nat.gcd_one_right _⟩
/-- A share, times the minutes. -/
theorem smul_is (s m : Int) (hs : 0 ≤ s ∧ s ≤ 100) (hm : 0 ≤ m ∧ m ≤ 600) (w : World) :
    Calls Try.prog 15 #[.agg #[.int .i64 (qN s 100), .int .i64 (qD s 100)], .agg #[.int .i64 m, .int .i64 1]] w
      fun e w' => e = .returned (.tuple #[.agg #[.int .i64 (qN (s * m) 100), .int .i64 (qD (s * m) 100)], .int .i64 0]) ∧ Below w.heap.size w w' := by
  obtain ⟨i1, i2⟩ := q_i64 (a := s) (b := 100) (by omega) hs.1 (by omega) (by omega)
  have hr := rmul_any (qN s 100) (qD s 100) m 1 w i1 i2 ⟨by omega, by omega⟩ ⟨by omega, by omega⟩
  have hv : vld (qN s 100) (qD s 100) = true := q_vld (by omega) ⟨by omega, by omega⟩ (by omega)
  obtain ⟨d1, d2, h⟩ := q_bd2 (a := s) (b := 100) (by omega)
  obtain ⟨n1, n2⟩ := h hs.1
  have a1 : 0 ≤ qN s 100 * m := Int.mul_nonneg n1 hm.1
  have a2 : qN s 100 * m ≤ 100 * m := Int.mul_le_mul_of_nonneg_right (by omega) hm.1
  have hq := mkq (n := qN s 100 * m) (d := qD s 100 * 1) (by omega) ⟨by omega, by omega⟩ (by omega)
  have he := q_same (a := qN s 100 * m) (b := qD s 100 * 1) (c := s * m) (d := 100) (by omega) (by omega) (by have := q_val s 100; grind)
  rw [hv, one_vld hm.1 (by omega)] at hr
  unfold opN opD opE at hr
  simp only [Bool.and_self, if_true] at hr
  rw [hq.1, hq.2.1, hq.2.2, he.1, he.2] at hr
  exact hr
theorem sadd_is (s t : Int) (hs : 0 ≤ s ∧ s ≤ 1200000) (ht : 0 ≤ t ∧ t ≤ 60000) (w : World) :
    Calls Try.prog 16 #[.agg #[.int .i64 (qN s 100), .int .i64 (qD s 100)], .agg #[.int .i64 (qN t 100), .int .i64 (qD t 100)]] w
      fun e w' => e = .returned (.tuple #[.agg #[.int .i64 (qN (s + t) 100), .int .i64 (qD (s + t) 100)], .int .i64 0]) ∧ Below w.heap.size w w' := by
  obtain ⟨i1, i2⟩ := q_i64 (a := s) (b := 100) (by omega) hs.1 (by omega) (by omega)
  obtain ⟨i3, i4⟩ := q_i64 (a := t) (b := 100) (by omega) ht.1 (by omega) (by omega)
  have hr := radd_any (qN s 100) (qD s 100) (qN t 100) (qD t 100) w i1 i2 i3 i4
  have hv : vld (qN s 100) (qD s 100) = true := q_vld (by omega) ⟨by omega, by omega⟩ (by omega)
  have hv2 : vld (qN t 100) (qD t 100) = true := q_vld (by omega) ⟨by omega, by omega⟩ (by omega)
  obtain ⟨d1, d2, h⟩ := q_bd2 (a := s) (b := 100) (by omega)
  obtain ⟨n1, n2⟩ := h hs.1
  obtain ⟨d3, d4, h'⟩ := q_bd2 (a := t) (b := 100) (by omega)
  obtain ⟨n3, n4⟩ := h' ht.1
  have v1 := q_val s 100
  have v2 := q_val t 100
  generalize qN s 100 = a at *
  generalize qD s 100 = b at *
  generalize qN t 100 = c at *
  generalize qD t 100 = d at *
  have a1 : 0 ≤ a * d := Int.mul_nonneg n1 (by omega)
  have a2 : a * d ≤ 1200000 * d := Int.mul_le_mul_of_nonneg_right (by omega) (by omega)
  have a3 : 0 ≤ c * b := Int.mul_nonneg n3 (by omega)
  have a4 : c * b ≤ 60000 * b := Int.mul_le_mul_of_nonneg_right (by omega) (by omega)
  have a5 : 0 < b * d := Int.mul_pos d1 d3
  have a6 : b * d ≤ 100 * d := Int.mul_le_mul_of_nonneg_right d2 (by omega)
  have hq := mkq (n := a * d + c * b) (d := b * d) a5 ⟨by omega, by omega⟩ (by omega)
  have he := q_same (a := a * d + c * b) (b := b * d) (c := s + t) (d := 100) a5 (by omega) (by grind)
  rw [hv, hv2] at hr
  unfold opN opD opE at hr
  simp only [Bool.and_self, if_true] at hr
  rw [hq.1, hq.2.1, hq.2.2, he.1, he.2] at hr
  exact hr
theorem sdiv_is (s m : Int) (hs : 0 ≤ s ∧ s ≤ 1200000) (hm : 0 < m ∧ m ≤ 12000) (w : World) :
    Calls Try.prog 17 #[.agg #[.int .i64 (qN s 100), .int .i64 (qD s 100)], .agg #[.int .i64 m, .int .i64 1]] w
      fun e w' => e = .returned (.tuple #[.agg #[.int .i64 (qN s (100 * m)), .int .i64 (qD s (100 * m))], .int .i64 0]) ∧ Below w.heap.size w w' := by
  obtain ⟨i1, i2⟩ := q_i64 (a := s) (b := 100) (by omega) hs.1 (by omega) (by omega)
  have hr := rdiv_any (qN s 100) (qD s 100) m 1 w i1 i2 ⟨by omega, by omega⟩ ⟨by omega, by omega⟩
  have hv : vld (qN s 100) (qD s 100) = true := q_vld (by omega) ⟨by omega, by omega⟩ (by omega)
  obtain ⟨d1, d2, h⟩ := q_bd2 (a := s) (b := 100) (by omega)
  obtain ⟨n1, n2⟩ := h hs.1
  have v1 := q_val s 100
  generalize qN s 100 = a at *
  generalize qD s 100 = b at *
  have a5 : 0 < b * m := Int.mul_pos d1 hm.1
  have a6 : b * m ≤ 100 * m := Int.mul_le_mul_of_nonneg_right d2 (by omega)
  have hq := mkq (n := a * 1) (d := b * m) a5 ⟨by omega, by omega⟩ (by omega)
  have he := q_same (a := a * 1) (b := b * m) (c := s) (d := 100 * m) a5 (by omega) (by grind)
  rw [hv, one_vld (by omega) (by omega)] at hr
  unfold opN opD opE at hr
  simp only [Bool.and_self, if_true] at hr
  rw [hq.1, hq.2.1, hq.2.2, he.1, he.2] at hr
  exact hr
end Go.Proofs.Ytiffgcipdamngaa

namespace Go.Proofs.Ytiffgcipdamngaa
open Go.RowKit Go.Sort
open Go.RowKit (Below)
set_option linter.unusedVariables false
set_option linter.unusedSimpArgs false
attribute [local go_sem] Oper.semAt_some

set_option maxRecDepth 100000 in
set_option maxHeartbeats 2000000 in
theorem zidx_is (K : Nat) (cb : Array Value) (eg : ∀ args w, (callFunc K args).run Try.prog w = .ok (.enter K args) w) (A : Option Addr) (C : Nat) (T : List Sv) (p : Nat → Bool) (hlen : T.length ≤ 9223372036854775807) (w : World) (hl : SvS w A T)
    (hc : ∀ k, k < T.length → ∀ W, Below w.heap.size w W → Calls Try.prog K (#[.agg #[.int .i64 (gdV T k).m, .slice (gdV T k).BA (gdV T k).bs.length (gdV T k).BC, .slice (gdV T k).TA (gdV T k).ts.length (gdV T k).TC]] ++ cb) W fun e w' => e = .returned (.bool (p k)) ∧ Below W.heap.size W w')
    (r : Int) (hr : (∃ k, k < T.length ∧ p k = true ∧ (∀ j, j < k → p j = false) ∧ (k : Int) = r) ∨ ((∀ k, k < T.length → p k = false) ∧ -1 = r)) :
    Calls Try.prog 43 #[.slice A T.length C, .func (.func K) #[] cb] w fun e_ w' => e_ = .returned (.int .i64 r) ∧ Below w.heap.size w w' := by
  have HL := Lib.hid hl
  have HC := Lib.hid hc
  have HR := Lib.hid hr
  clear hl hc hr
  go_enter Try.func43, Try.ntmps43
  go_wp2_with fail
  go_loopw [5, 8] (fun _ i wr => ∃ k : Nat, k ≤ T.length ∧ i = .int .i64 k ∧ Hid (∀ j, j < k → p j = false) ∧ Below w.heap.size w wr) (fun _ i _ => T.length - (intOf i).toNat)
  case atStart => exact ⟨0, Nat.zero_le _, rfl, fun j hj => absurd hj (Nat.not_lt_zero j), Below.refl _ _⟩
  case round =>
    obtain ⟨k, hk, rfl, HK, hW⟩ := hrel
    have HB := Lib.hid hW
    by_cases hlt : k < T.length
    · obtain ⟨b0, o0, rfl, e0, e1, e2, hbs, hts⟩ := HL.out.below hW k hlt
      have HCC := Lib.hid (fun W (h : Below wr.heap.size wr W) => HC.out k hlt W (on_below hW h))
      clear hW
      obtain ⟨q, hq⟩ : ∃ q, p k = q := ⟨_, rfl⟩
      rw [hq] at HCC
      have HQ := Lib.hid hq
      clear hq
      generalize gdV T k = u at *
      have w1_ : IntKind.i64.wrap ((k : Int) + 1) = (k : Int) + 1 := IntWalk.i64_in _ ⟨by omega, by omega⟩
      have w2_ : wrap64 ((k : Int) + 1) = (k : Int) + 1 := IntWalk.wrap64_in _ ⟨by omega, by omega⟩
      cases q
      · go_wp2_with (go_at_fn K; with_reducible refine (HCC.out _ (Below.refl _ _)).mono ?_; rintro e' w2 ⟨rfl, hb⟩)
        go_roundw
        case rel => exact ⟨k + 1, hlt, int_of (by omega), (fun j hj => by by_cases e : j = k; (subst e; exact HQ.out); exact HK.out j (by omega)), on_below HB.out hb⟩
        case measure => simp [intOf]; omega
      · have hr : (k : Int) = r := by
          rcases HR.out with ⟨j, hj, h1, h2, h3⟩ | ⟨h1, h2⟩
          · rcases Nat.lt_trichotomy j k with h | h | h
            · have := HK.out j h; rw [this] at h1; cases h1
            · rw [← h]; exact h3
            · have := h2 k h; rw [HQ.out] at this; cases this
          · have := h1 k hlt; rw [HQ.out] at this; cases this
        subst hr
        go_wp2_with (go_at_fn K; with_reducible refine (HCC.out _ (Below.refl _ _)).mono ?_; rintro e' w2 ⟨rfl, hb⟩)
        go_ret
        exact ⟨rfl, on_below HB.out hb⟩
    · have hr : -1 = r := by
        rcases HR.out with ⟨j, hj, h1, h2, h3⟩ | ⟨h1, h2⟩
        · have := HK.out j (by omega); rw [this] at h1; cases h1
        · exact h2
      subst hr
      go_wp2_with fail
      go_ret
      exact ⟨rfl, hW⟩
set_option maxRecDepth 100000 in
theorem zhas_is (K : Nat) (cb : Array Value) (eg : ∀ args w, (callFunc K args).run Try.prog w = .ok (.enter K args) w) (A : Option Addr) (C : Nat) (T : List Sv) (p : Nat → Bool) (hlen : T.length ≤ 9223372036854775807) (w : World) (hl : SvS w A T)
    (hc : ∀ k, k < T.length → ∀ W, Below w.heap.size w W → Calls Try.prog K (#[.agg #[.int .i64 (gdV T k).m, .slice (gdV T k).BA (gdV T k).bs.length (gdV T k).BC, .slice (gdV T k).TA (gdV T k).ts.length (gdV T k).TC]] ++ cb) W fun e w' => e = .returned (.bool (p k)) ∧ Below W.heap.size W w')
    (r : Bool) (hr : r = true ↔ ∃ k, k < T.length ∧ p k = true) :
    Calls Try.prog 25 #[.slice A T.length C, .func (.func K) #[] cb] w fun e_ w' => e_ = .returned (.bool r) ∧ Below w.heap.size w w' := by
  obtain ⟨s, hs, hrs⟩ : ∃ s : Int, ((∃ k, k < T.length ∧ p k = true ∧ (∀ j, j < k → p j = false) ∧ (k : Int) = s) ∨ ((∀ k, k < T.length → p k = false) ∧ -1 = s)) ∧ decide (0 ≤ s) = r := by
    by_cases h : ∃ k, k < T.length ∧ p k = true
    · obtain ⟨k, hk, hp, hm⟩ := least_hit h
      exact ⟨k, Or.inl ⟨k, hk, hp, hm, rfl⟩, by rw [hr.2 h]; simp⟩
    · refine ⟨-1, Or.inr ⟨fun k hk => by cases hp : p k; rfl; exact absurd ⟨k, hk, hp⟩ h, rfl⟩, ?_⟩
      cases r
      · rfl
      · exact absurd (hr.1 rfl) h
  have HI := Lib.hid (zidx_is K cb eg A C T p hlen w hl hc s hs)
  clear hl hc hs hr
  go_enter Try.func25, Try.ntmps25
  go_wp2_with fail
  refine HI.out.mono ?_
  rintro e_ w1 ⟨rfl, hb⟩
  subst hrs
  go_wp2_with fail
  all_goals go_ret
  all_goals exact ⟨by simp_all, hb⟩
set_option maxRecDepth 100000 in
set_option maxHeartbeats 2000000 in
theorem pv_wide (A : Option Addr) (C : Nat) (xs : List (Int × Int)) (lo hi : Int) (hn : 8 < xs.length) (w : World) :
    Calls Try.prog 41 #[.agg #[.slice A xs.length C, .int .i64 lo, .int .i64 hi]] w fun e_ w' => e_ = .returned (.bool false) ∧ Below w.heap.size w w' := by
  have p0 : World.cell? (w.alloc (.cells #[.slice A xs.length C, .int .i64 lo, .int .i64 hi] 46)) ⟨w.heap.size, 0, none⟩ = some (.slice A xs.length C) := by simp [go_sem]
  have p1 : World.cell? (w.alloc (.cells #[.slice A xs.length C, .int .i64 lo, .int .i64 hi] 46)) ⟨w.heap.size, 1, none⟩ = some (.int .i64 lo) := by simp [go_sem]
  have p2 : World.cell? (w.alloc (.cells #[.slice A xs.length C, .int .i64 lo, .int .i64 hi] 46)) ⟨w.heap.size, 2, none⟩ = some (.int .i64 hi) := by simp [go_sem]
  have lp : w.heap.size < (w.alloc (.cells #[.slice A xs.length C, .int .i64 lo, .int .i64 hi] 46)).heap.size := by simp <;> omega
  have HB := Lib.hid (show Below w.heap.size w (w.alloc (.cells #[.slice A xs.length C, .int .i64 lo, .int .i64 hi] 46)) from ((Below.refl _ _).alloc (by simp <;> omega) _))
  go_enter Try.func41, Try.ntmps41
  go_upto_region 1 with fail
  generalize w.alloc (.cells #[.slice A xs.length C, .int .i64 lo, .int .i64 hi] 46) = w1 at *
  go_wp2_with fail
  go_ret
  exact ⟨rfl, HB.out⟩
theorem pvalid_wide (A : Option Addr) (C : Nat) (xs : List (Int × Int)) (lo hi : Int) (r : Bool) (hr : r = true ↔ Bok xs lo hi) (w : World) (hl : SlS w A xs) :
    Calls Try.prog 41 #[.agg #[.slice A xs.length C, .int .i64 lo, .int .i64 hi]] w fun e_ w' => e_ = .returned (.bool r) ∧ Below w.heap.size w w' := by
  by_cases h : 8 < xs.length
  · obtain rfl : false = r := false_of fun e => by have := (hr.1 e).n8; omega
    exact pv_wide A C xs lo hi h w
  · exact pvalid_is A C xs lo hi (by omega) r hr w hl
theorem bdz_enter (args : Array Value) (W : World) : (callFunc 40 args).run Try.prog W = .ok (.enter 40 args) W := by simp [go_sem]
set_option maxRecDepth 100000 in
set_option maxHeartbeats 2000000 in
theorem bdz_is (A : Option Addr) (C : Nat) (xs : List (Int × Int)) (lo hi : Int) (r : Bool) (hr : r = false ↔ Bok xs lo hi) (w : World) (hl : SlS w A xs) :
    Calls Try.prog 40 #[.agg #[.slice A xs.length C, .int .i64 lo, .int .i64 hi]] w fun e_ w' => e_ = .returned (.bool r) ∧ Below w.heap.size w w' := by
  have HC := Lib.hid (fun W (h : SlS W A xs) => pvalid_wide A C xs lo hi (!r) (by rw [Bool.not_eq_true']; exact hr) W h)
  clear hr
  have HL := Lib.hid hl
  clear hl
  have p0 : World.cell? (w.alloc (.cells #[.slice A xs.length C, .int .i64 lo, .int .i64 hi] 46)) ⟨w.heap.size, 0, none⟩ = some (.slice A xs.length C) := by simp [go_sem]
  have p1 : World.cell? (w.alloc (.cells #[.slice A xs.length C, .int .i64 lo, .int .i64 hi] 46)) ⟨w.heap.size, 1, none⟩ = some (.int .i64 lo) := by simp [go_sem]
  have p2 : World.cell? (w.alloc (.cells #[.slice A xs.length C, .int .i64 lo, .int .i64 hi] 46)) ⟨w.heap.size, 2, none⟩ = some (.int .i64 hi) := by simp [go_sem]
  have lp : w.heap.size < (w.alloc (.cells #[.slice A xs.length C, .int .i64 lo, .int .i64 hi] 46)).heap.size := by simp <;> omega
  have HB := Lib.hid (show Below w.heap.size w (w.alloc (.cells #[.slice A xs.length C, .int .i64 lo, .int .i64 hi] 46)) from ((Below.refl _ _).alloc (by simp <;> omega) _))
  go_enter Try.func40, Try.ntmps40
  go_upto_region 1 with fail
  generalize w.alloc (.cells #[.slice A xs.length C, .int .i64 lo, .int .i64 hi] 46) = w1 at *
  replace HL := Lib.hid (HL.out.below HB.out)
  go_wp2_with fail
  with_reducible refine (HC.out _ HL.out).mono ?_
  rintro e_ w2 ⟨rfl, hb⟩
  replace HB := Lib.hid (on_below HB.out hb)
  replace HL := Lib.hid (HL.out.below hb)
  replace p0 := keepc hb p0
  replace p1 := keepc hb p1
  replace p2 := keepc hb p2
  replace lp := Nat.lt_of_lt_of_le lp hb.size
  clear hb
  go_wp2_with fail
  go_ret
  exact ⟨by cases r <;> rfl, HB.out⟩
set_option maxRecDepth 100000 in
set_option maxHeartbeats 2000000 in
theorem abz_is (A : Option Addr) (C : Nat) (L : List Bv) (hlen : L.length ≤ 9223372036854775807) (r : Bool) (hr : r = true ↔ Bds L) (w : World) (hl : BdS w A L) :
    Calls Try.prog 24 #[.slice A L.length C] w fun e_ w' => e_ = .returned (.bool r) ∧ Below w.heap.size w w' := by
  have hmf : ∀ (fn : Fn) (first cap : Array Value) (w : World), (Instr.makeFunc fn first cap).run Try.prog w = .ok (.func fn first cap) w := fun _ _ _ _ => rfl
  obtain ⟨p, hp⟩ : ∃ p : Nat → Bool, ∀ k, p k = false ↔ Bok (gdB L k).xs (gdB L k).lo (gdB L k).hi := by
    classical
    exact ⟨fun k => !decide (Bok (gdB L k).xs (gdB L k).lo (gdB L k).hi), fun k => by simp⟩
  have HC := Lib.hid (fun W (h : BdS W A L) => bhas_is 40 #[] bdz_enter A C L p hlen W h (fun k hk W1 h1 => by
    obtain ⟨_, _, _, _, _, _, hsl⟩ := h.below h1 k hk
    simpa using bdz_is (gdB L k).A (gdB L k).C (gdB L k).xs (gdB L k).lo (gdB L k).hi (p k) (hp k) W1 hsl) (!r) (by
    cases r
    · simp only [Bool.not_false, true_iff]
      apply Classical.byContradiction
      intro hn
      have : Bds L := fun k hk => (hp k).1 (not_true fun h => hn ⟨k, hk, h⟩)
      exact absurd (hr.2 this) (by decide)
    · have := hr.1 rfl
      simp only [Bool.not_true, Bool.false_eq_true, false_iff]
      rintro ⟨k, hk, h⟩
      rw [(hp k).2 (this k hk)] at h
      cases h))
  clear hr hp
  have HL := Lib.hid hl
  clear hl
  go_enter Try.func24, Try.ntmps24
  go_wp2_with fail
  refine (HC.out _ HL.out).mono ?_
  rintro e_ w1 ⟨rfl, hb⟩
  go_wp2_with fail
  go_ret
  exact ⟨by cases r <;> rfl, hb⟩
theorem tgb_cases {q : Q4} : tgb q = false ↔ vv q.a q.b q.c = true ∧ 1 ≤ q.d ∧ q.d ≤ 100 := by
  unfold tgb
  simp only [Bool.or_eq_false_iff, Bool.not_eq_false', decide_eq_false_iff_not, and_assoc]
  constructor <;> rintro ⟨a, b, c⟩ <;> exact ⟨a, by omega, by omega⟩
theorem wsum_bd {T : List Q4} : ∀ k, (∀ j, j < k → tgb (gd4 T j) = false) → 0 ≤ wsum T k ∧ wsum T k ≤ 100 * k
  | 0, _ => ⟨by simp [wsum], by simp [wsum]⟩
  | k + 1, h => by
    obtain ⟨h1, h2⟩ := wsum_bd k (fun j hj => h j (by omega))
    have := (tgb_cases.1 (h k (by omega))).2
    unfold wsum
    exact ⟨by omega, by omega⟩
set_option maxRecDepth 100000 in
set_option maxHeartbeats 2000000 in
theorem ath_0 (A : Option Addr) (C : Nat) (T : List Q4) (h : 60 < T.length) (w : World) :
    Calls Try.prog 23 #[.slice A T.length C] w fun e_ w' => e_ = .returned (.bool false) ∧ Below w.heap.size w w' := by
  go_enter Try.func23, Try.ntmps23
  go_wp2_with fail
  go_ret
  exact ⟨rfl, Below.refl _ _⟩
set_option maxRecDepth 100000 in
set_option maxHeartbeats 4000000 in
theorem ath_1 (A : Option Addr) (C : Nat) (T : List Q4) (h : T.length ≤ 60) (r : Bool) (hr : r = true ↔ Twt T) (w : World) (hl : S4 w A T) :
    Calls Try.prog 23 #[.slice A T.length C] w fun e_ w' => e_ = .returned (.bool r) ∧ Below w.heap.size w w' := by
  have HL := Lib.hid hl
  clear hl
  have HR := Lib.hid hr
  clear hr
  have HB := Lib.hid (Below.refl w.heap.size w)
  go_enter Try.func23, Try.ntmps23
  go_wp2_with fail
  go_loopw [3, 11] (fun s i wr => ∃ k : Nat, k ≤ T.length ∧ i = .int .i64 k ∧ s = .int .i64 (wsum T k) ∧ Hid (∀ j, j < k → tgb (gd4 T j) = false) ∧ Below w.heap.size w wr) (fun _ i _ => T.length - (intOf i).toNat)
  case atStart => exact ⟨0, Nat.zero_le _, rfl, rfl, Lib.hid (fun j hj => absurd hj (Nat.not_lt_zero j)), Below.refl _ _⟩
  case round =>
    obtain ⟨k, hk, rfl, rfl, HK, hW⟩ := hrel
    by_cases hlt : k < T.length
    · obtain ⟨b0, o0, rfl, e0, e1, e2, e3⟩ := HL.out.below hW k hlt
      have hw0 := wsum_bd k HK.out
      have HS := Lib.hid (show wsum T (k + 1) = wsum T k + (gd4 T k).d from rfl)
      have HN := Lib.hid (show tgb (gd4 T k) = true → r = false from fun h => not_true fun e => by have := (HR.out.1 e).2.1 k hlt; rw [h] at this; cases this)
      have HT := Lib.hid (tgb_cases (q := gd4 T k))
      have HT2 := Lib.hid (show tgb (gd4 T k) = true ∨ tgb (gd4 T k) = false by cases tgb (gd4 T k); exact Or.inr rfl; exact Or.inl rfl)
      have HKS := Lib.hid (show tgb (gd4 T k) = false → ∀ j, j < k + 1 → tgb (gd4 T j) = false from fun h j hj => by by_cases e : j = k; (subst e; exact h); exact HK.out j (by omega))
      generalize wsum T k = wk at *
      generalize gd4 T k = u at *
      obtain ⟨ua, ub, uc, ud⟩ := u
      dsimp only at e0 e1 e2 e3 HT HS
      have w1_ : IntKind.i64.wrap ((k : Int) + 1) = (k : Int) + 1 := IntWalk.i64_in _ ⟨by omega, by omega⟩
      have w2_ : wrap64 ((k : Int) + 1) = (k : Int) + 1 := IntWalk.wrap64_in _ ⟨by omega, by omega⟩
      have HW := Lib.hid hW
      clear hW
      have hb := below_new wr (.cells #[.int .i64 ua, .int .i64 ub, .int .i64 uc, .int .i64 ud] 41)
      have u0 : World.cell? (wr.alloc (.cells #[.int .i64 ua, .int .i64 ub, .int .i64 uc, .int .i64 ud] 41)) ⟨wr.heap.size, 0, none⟩ = some (.int .i64 ua) := by simp [go_sem]
      have u1 : World.cell? (wr.alloc (.cells #[.int .i64 ua, .int .i64 ub, .int .i64 uc, .int .i64 ud] 41)) ⟨wr.heap.size, 1, none⟩ = some (.int .i64 ub) := by simp [go_sem]
      have u2 : World.cell? (wr.alloc (.cells #[.int .i64 ua, .int .i64 ub, .int .i64 uc, .int .i64 ud] 41)) ⟨wr.heap.size, 2, none⟩ = some (.int .i64 uc) := by simp [go_sem]
      have u3 : World.cell? (wr.alloc (.cells #[.int .i64 ua, .int .i64 ub, .int .i64 uc, .int .i64 ud] 41)) ⟨wr.heap.size, 3, none⟩ = some (.int .i64 ud) := by simp [go_sem]
      obtain ⟨w1, hw1⟩ : ∃ V, wr.alloc (.cells #[.int .i64 ua, .int .i64 ub, .int .i64 uc, .int .i64 ud] 41) = V := ⟨_, rfl⟩
      rw [hw1] at u0 u1 u2 u3 hb
      have lu := block_lt u0
      cases hv : vv ua ub uc
      · have hf := HN.out (by rcases HT2.out with h | h; exact h; have := (HT.out.1 h).1; rw [hv] at this; cases this)
        subst hf
        have CV := Lib.hid (fun W => vvalid_is ua ub uc false hv W)
        clear hv
        go_wp2_with fail
        with_reducible refine (CV.out _).mono ?_
        rintro e_ w2 ⟨rfl, hb2⟩
        replace HW := Lib.hid (on_below HW.out (on_below hb hb2))
        replace u0 := keepc hb2 u0
        replace u1 := keepc hb2 u1
        replace u2 := keepc hb2 u2
        replace u3 := keepc hb2 u3
        replace lu := Nat.lt_of_lt_of_le lu hb2.size
        clear hb hb2 hw1
        go_wp2_with fail
        go_ret
        exact ⟨rfl, HW.out⟩
      · have CV := Lib.hid (fun W => vvalid_is ua ub uc true hv W)
        have HV := Lib.hid hv
        clear hv
        by_cases cl : ud < 1
        · have hf := HN.out (by rcases HT2.out with h | h; exact h; have := (HT.out.1 h).2; omega)
          subst hf
          go_wp2_with fail
          with_reducible refine (CV.out _).mono ?_
          rintro e_ w2 ⟨rfl, hb2⟩
          replace HW := Lib.hid (on_below HW.out (on_below hb hb2))
          replace u0 := keepc hb2 u0
          replace u1 := keepc hb2 u1
          replace u2 := keepc hb2 u2
          replace u3 := keepc hb2 u3
          replace lu := Nat.lt_of_lt_of_le lu hb2.size
          clear hb hb2 hw1
          go_wp2_with fail
          go_ret
          exact ⟨rfl, HW.out⟩
        by_cases cr : 100 < ud
        · have hf := HN.out (by rcases HT2.out with h | h; exact h; have := (HT.out.1 h).2; omega)
          subst hf
          go_wp2_with fail
          with_reducible refine (CV.out _).mono ?_
          rintro e_ w2 ⟨rfl, hb2⟩
          replace HW := Lib.hid (on_below HW.out (on_below hb hb2))
          replace u0 := keepc hb2 u0
          replace u1 := keepc hb2 u1
          replace u2 := keepc hb2 u2
          replace u3 := keepc hb2 u3
          replace lu := Nat.lt_of_lt_of_le lu hb2.size
          clear hb hb2 hw1
          go_wp2_with fail
          go_ret
          exact ⟨rfl, HW.out⟩
        have hg : tgb ⟨ua, ub, uc, ud⟩ = false := HT.out.2 ⟨HV.out, by omega, by omega⟩
        have HG := Lib.hid (HKS.out hg)
        clear hg
        have w3_ : IntKind.i64.wrap (wk + ud) = wk + ud := IntWalk.i64_in _ ⟨by omega, by omega⟩
        have w4_ : wrap64 (wk + ud) = wk + ud := IntWalk.wrap64_in _ ⟨by omega, by omega⟩
        go_wp2_with fail
        with_reducible refine (CV.out _).mono ?_
        rintro e_ w2 ⟨rfl, hb2⟩
        replace HW := Lib.hid (on_below HW.out (on_below hb hb2))
        replace u0 := keepc hb2 u0
        replace u1 := keepc hb2 u1
        replace u2 := keepc hb2 u2
        replace u3 := keepc hb2 u3
        replace lu := Nat.lt_of_lt_of_le lu hb2.size
        clear hb hb2 hw1
        go_wp2_with fail
        go_roundw
        case rel => exact ⟨k + 1, hlt, int_of (by omega), (by rw [HS.out]), HG.out, HW.out⟩
        case measure => simp [intOf]; omega
    · have hke : k = T.length := by omega
      subst hke
      have z1 : (wsum T T.length == 100) = r := by
        cases r
        · rw [beq_eq_false_iff_ne]; exact fun e => by have := HR.out.2 ⟨h, HK.out, e⟩; cases this
        · rw [beq_iff_eq]; exact (HR.out.1 rfl).2.2
      generalize wsum T T.length = wk at *
      go_wp2_with fail
      go_ret
      exact ⟨by first | rfl | simp [z1], hW⟩
theorem ath_is (A : Option Addr) (C : Nat) (T : List Q4) (r : Bool) (hr : r = true ↔ Twt T) (w : World) (hl : S4 w A T) :
    Calls Try.prog 23 #[.slice A T.length C] w fun e_ w' => e_ = .returned (.bool r) ∧ Below w.heap.size w w' := by
  by_cases h : 60 < T.length
  · obtain rfl : false = r := false_of fun e => by have := (hr.1 e).1; omega
    exact ath_0 A C T h w
  · exact ath_1 A C T (by omega) r hr w hl
end Go.Proofs.Ytiffgcipdamngaa
