/-
  Plain facts of layer 12: plans as lists, indices of IDs, what suits, parts. Plain facts of layer 12's laws: parts, which places are beside each other. Plain facts of layer 12's laws: who is beside a place; one more place. What lies in memory: places, numbers; which places are valid.
-/
import Derived.Maps.OwnSet
import Derived.Test.YtgikpcoaennkgaaZGenE
import Derived.Test.YtgikpcoaennkgaaZSgtZA
namespace Go.Proofs.Ytgikpcoaennkgaa
set_option linter.unusedVariables false
set_option linter.unusedSimpArgs false

/-! ### Places -/
structure Pl where
  id : Int
  row : Int
  pos : Int
  ex : Int
  ey : Int
  ez : Int
  kd : Int
deriving DecidableEq
def gdP (L : List Pl) (k : Nat) : Pl := L.getD k ⟨0, 0, 0, 0, 0, 0, 0⟩
def gdI (X : List Int) (k : Nat) : Int := X.getD k 0
theorem gdP_at {L : List Pl} {k : Nat} (h : k < L.length) : gdP L k = L[k] := by unfold gdP; rw [List.getD_eq_getElem?_getD, List.getElem?_eq_getElem h]; rfl
theorem gdI_at {X : List Int} {k : Nat} (h : k < X.length) : gdI X k = X[k] := by unfold gdI; rw [List.getD_eq_getElem?_getD, List.getElem?_eq_getElem h]; rfl
theorem gdI_take {X : List Int} {n k : Nat} (h : k < n) : gdI (X.take n) k = gdI X k := by unfold gdI; rw [List.getD_eq_getElem?_getD, List.getD_eq_getElem?_getD, List.getElem?_take, if_pos h]
theorem gdI_map (f : Nat → Int) (n : Nat) {k : Nat} (h : k < n) : gdI ((List.range n).map f) k = f k := by
  rw [gdI_at (by simpa using h)]; simp
theorem gdI_map' (f : Int → Int) (X : List Int) {k : Nat} (h : k < X.length) : gdI (X.map f) k = f (gdI X k) := by
  rw [gdI_at (by simpa using h), gdI_at h]; simp
theorem mem_gdI {X : List Int} {x : Int} : x ∈ X ↔ ∃ k, k < X.length ∧ gdI X k = x := by
  constructor
  · intro h
    obtain ⟨k, hk, e⟩ := List.getElem_of_mem h
    exact ⟨k, hk, by rw [gdI_at hk]; exact e⟩
  · rintro ⟨k, hk, rfl⟩
    rw [gdI_at hk]; exact List.getElem_mem hk
theorem listI_eq {N M : List Int} (hl : N.length = M.length) (h : ∀ j, j < N.length → gdI N j = gdI M j) : N = M := by
  apply List.ext_getElem hl
  intro i h1 h2
  have := h i h1
  rwa [gdI_at h1, gdI_at h2] at this
/-- All IDs are different: the first k. -/
def Dst (L : List Pl) (k : Nat) : Prop := ∀ i j, i < j → j < k → (gdP L i).id ≠ (gdP L j).id
def DstI (X : List Int) (k : Nat) : Prop := ∀ i j, i < j → j < k → gdI X i ≠ gdI X j
theorem Dst.succ {L : List Pl} {k : Nat} : Dst L (k + 1) ↔ Dst L k ∧ ¬ ∃ j, j < k ∧ (gdP L j).id = (gdP L k).id := by
  constructor
  · intro h
    exact ⟨fun i j hi hj => h i j hi (by omega), fun ⟨j, hj, e⟩ => h j k hj (by omega) e⟩
  · rintro ⟨h, hn⟩ i j hi hj e
    by_cases hjk : j = k
    · subst hjk; exact hn ⟨i, hi, e⟩
    · exact h i j hi (by omega) e
theorem DstI.succ {X : List Int} {k : Nat} : DstI X (k + 1) ↔ DstI X k ∧ ¬ ∃ j, j < k ∧ gdI X j = gdI X k := by
  constructor
  · intro h
    exact ⟨fun i j hi hj => h i j hi (by omega), fun ⟨j, hj, e⟩ => h j k hj (by omega) e⟩
  · rintro ⟨h, hn⟩ i j hi hj e
    by_cases hjk : j = k
    · subst hjk; exact hn ⟨i, hi, e⟩
    · exact h i j hi (by omega) e
theorem DstI.nodup {X : List Int} (h : DstI X X.length) : X.Nodup := by
  rw [List.nodup_iff_pairwise_ne] 
  rw [List.pairwise_iff_getElem]
  intro i j hi hj hij
  have := h i j hij hj
  rwa [gdI_at hi, gdI_at hj] at this

/-! ### The maps -/
open Go.Maps (IsMap Tidy tidy_empty)
section
variable {H : Type}
theorem kli (x : Int) : WideAt.IsKeyLit (Lit.int .i64 x) := trivial
def mpD (L : List Pl) : Nat → DataW H
  | 0 => .map []
  | k + 1 => (mpD L k).put (.int .i64 (gdP L k).id) (.lit (.int .i64 (k : Int)))
def stD (X : List Int) : Nat → DataW H
  | 0 => .map []
  | k + 1 => (stD X k).put (.int .i64 (gdI X k)) (.lit (.bool true))
theorem mpD_tidy (L : List Pl) : ∀ k, Tidy (mpD (H := H) L k)
  | 0 => tidy_empty
  | k + 1 => (mpD_tidy L k).put (kli _) _
theorem stD_tidy (X : List Int) : ∀ k, Tidy (stD (H := H) X k)
  | 0 => tidy_empty
  | k + 1 => (stD_tidy X k).put (kli _) _
theorem lit_ne {x y : Int} (h : x ≠ y) : (Lit.int .i64 x) ≠ Lit.int .i64 y := fun e => by injection e with _ e; exact h e
theorem mpD_has (L : List Pl) (x : Int) : ∀ k, Maps.has (mpD (H := H) L k) (.int .i64 x) = decide (∃ j, j < k ∧ (gdP L j).id = x)
  | 0 => by simp [mpD, Maps.has]
  | k + 1 => by
    by_cases e : (gdP L k).id = x
    · have h1 : Maps.has (mpD (H := H) L (k + 1)) (.int .i64 x) = true := by
        show Maps.has ((mpD L k).put (.int .i64 (gdP L k).id) _) (.int .i64 x) = true
        rw [e]; exact Maps.has_put_same (mpD_tidy L k).isMap (kli _) _
      rw [h1, decide_eq_true ⟨k, Nat.lt_succ_self k, e⟩]
    · have h1 : Maps.has (mpD (H := H) L (k + 1)) (.int .i64 x) = Maps.has (mpD (H := H) L k) (.int .i64 x) := Maps.has_put_other (lit_ne (Ne.symm e)) _
      rw [h1, mpD_has L x k]
      apply decide_eq_decide.2
      constructor
      · rintro ⟨j, hj, h⟩; exact ⟨j, by omega, h⟩
      · rintro ⟨j, hj, h⟩
        by_cases hjk : j = k
        · subst hjk; exact absurd h e
        · exact ⟨j, by omega, h⟩
theorem stD_at (X : List Int) (x : Int) : ∀ k, (stD (H := H) X k).atKey (.int .i64 x) (.lit (.bool false)) = .lit (.bool (decide (∃ j, j < k ∧ gdI X j = x)))
  | 0 => by simp [stD, DataW.atKey]
  | k + 1 => by
    by_cases e : gdI X k = x
    · have h1 : (stD (H := H) X (k + 1)).atKey (.int .i64 x) (.lit (.bool false)) = .lit (.bool true) := by
        show ((stD X k).put (.int .i64 (gdI X k)) _).atKey (.int .i64 x) _ = _
        rw [e]; exact Maps.atKey_put_same (stD_tidy X k).isMap (kli _) _ _
      rw [h1, decide_eq_true ⟨k, Nat.lt_succ_self k, e⟩]
    · have h1 : (stD (H := H) X (k + 1)).atKey (.int .i64 x) (.lit (.bool false)) = (stD (H := H) X k).atKey (.int .i64 x) (.lit (.bool false)) := Maps.atKey_put_other (lit_ne (Ne.symm e)) _ _
      rw [h1, stD_at X x k]
      congr 2
      apply decide_eq_decide.2
      constructor
      · rintro ⟨j, hj, h⟩; exact ⟨j, by omega, h⟩
      · rintro ⟨j, hj, h⟩
        by_cases hjk : j = k
        · subst hjk; exact absurd h e
        · exact ⟨j, by omega, h⟩
theorem mpD_at {L : List Pl} : ∀ {k : Nat}, Dst L k → ∀ j, j < k → ∀ z, (mpD (H := H) L k).atKey (.int .i64 (gdP L j).id) z = .lit (.int .i64 (j : Int))
  | 0, _, j, hj, z => absurd hj (Nat.not_lt_zero j)
  | k + 1, hd, j, hj, z => by
    by_cases hjk : j = k
    · subst hjk; exact Maps.atKey_put_same (mpD_tidy L j).isMap (kli _) _ _
    · have h1 : (mpD (H := H) L (k + 1)).atKey (.int .i64 (gdP L j).id) z = (mpD (H := H) L k).atKey (.int .i64 (gdP L j).id) z := Maps.atKey_put_other (lit_ne (hd j k (by omega) (Nat.lt_succ_self k))) _ _
      rw [h1]; exact mpD_at (Dst.succ.1 hd).1 j (by omega) z
theorem mpD_size (L : List Pl) : ∀ k, Maps.size (mpD (H := H) L k) ≤ k ∧ (Maps.size (mpD (H := H) L k) = k ↔ Dst L k)
  | 0 => ⟨Nat.le_refl _, fun _ i j _ hj => absurd hj (Nat.not_lt_zero j), fun _ => rfl⟩
  | k + 1 => by
    obtain ⟨h1, h2⟩ := mpD_size L k
    have h3 : Maps.size (mpD (H := H) L (k + 1)) = if Maps.has (mpD (H := H) L k) (.int .i64 (gdP L k).id) then Maps.size (mpD (H := H) L k) else Maps.size (mpD (H := H) L k) + 1 := Maps.size_put (mpD_tidy L k) _
    rw [h3, mpD_has, Dst.succ]
    by_cases e : ∃ j, j < k ∧ (gdP L j).id = (gdP L k).id
    · rw [decide_eq_true e, if_pos rfl]
      exact ⟨by omega, fun h => by omega, fun h => absurd e h.2⟩
    · rw [decide_eq_false e, if_neg (by decide)]
      exact ⟨by omega, fun h => ⟨h2.1 (by omega), e⟩, fun h => by rw [h2.2 h.1]⟩
end

/-! ### Valid plans -/
def vv' (x y z : Int) : Bool := decide (-2000 ≤ x ∧ x ≤ 2000 ∧ -2000 ≤ y ∧ y ≤ 2000 ∧ -2000 ≤ z ∧ z ≤ 2000)
/-- A row, or a position. -/
def rw_ (n : Int) : Bool := decide (0 ≤ n) && decide (n ≤ 99)
/-- Behind. -/
def bhd (p q : Pl) : Bool := decide (q.row < p.row) || (decide (p.row = q.row) && decide (q.pos < p.pos))
/-- Beside. -/
def nxt (p q : Pl) : Bool := decide (p.row = q.row) && (decide (p.pos - q.pos = 1) || decide (q.pos - p.pos = 1))
theorem nxt_comm (p q : Pl) : nxt p q = nxt q p := by
  unfold nxt
  rw [Bool.or_comm]
  congr 1
  exact decide_eq_decide.2 ⟨Eq.symm, Eq.symm⟩
theorem nxt_self (p : Pl) : nxt p p = false := by unfold nxt; simp
/-- The index of the place with an ID; the plan's length, if there is none. -/
def ixP (L : List Pl) (x : Int) : Nat := L.findIdx (fun p => decide (p.id = x))
theorem ixP_le (L : List Pl) (x : Int) : ixP L x ≤ L.length := List.findIdx_le_length
theorem ixP_id {L : List Pl} {x : Int} (h : ixP L x < L.length) : (gdP L (ixP L x)).id = x := by
  rw [gdP_at h]; exact of_decide_eq_true (List.findIdx_getElem (w := h))
theorem ixP_before {L : List Pl} {x : Int} {j : Nat} (h : j < ixP L x) : (gdP L j).id ≠ x := by
  have hl : j < L.length := Nat.lt_of_lt_of_le h (ixP_le L x)
  rw [gdP_at hl]
  exact of_decide_eq_false (List.not_of_lt_findIdx h)
theorem ixP_first {L : List Pl} {x : Int} {k : Nat} (hk : k < L.length) (h : (gdP L k).id = x) (hb : ∀ j, j < k → (gdP L j).id ≠ x) : ixP L x = k := by
  unfold ixP
  rw [List.findIdx_eq hk]
  rw [gdP_at hk] at h
  refine ⟨decide_eq_true h, fun j hj => ?_⟩
  have := hb j hj
  rw [gdP_at (by omega)] at this
  exact decide_eq_false this
theorem ixP_none {L : List Pl} {x : Int} (h : ∀ j, j < L.length → (gdP L j).id ≠ x) : ixP L x = L.length := by
  have h1 := ixP_le L x
  by_cases h2 : ixP L x < L.length
  · exact absurd (ixP_id h2) (h _ h2)
  · omega
theorem ixP_lt {L : List Pl} {x : Int} : ixP L x < L.length ↔ ∃ j, j < L.length ∧ (gdP L j).id = x := by
  constructor
  · intro h; exact ⟨_, h, ixP_id h⟩
  · rintro ⟨j, hj, e⟩
    have h1 := ixP_le L x
    by_cases h2 : ixP L x = L.length
    · exact absurd e (ixP_before (by omega))
    · omega
theorem ixP_at {L : List Pl} (hd : Dst L L.length) {k : Nat} (hk : k < L.length) : ixP L (gdP L k).id = k :=
  ixP_first hk rfl (fun j hj => hd j k hj hk)
/-- A plan is valid: at most 300 places, each valid, each behind the one ahead of it, all IDs different. -/
structure PlanOk (ok : Pl → Bool) (L : List Pl) : Prop where
  few : L.length ≤ 300
  each : ∀ k, k < L.length → ok (gdP L k) = true
  rise : ∀ k, k + 1 < L.length → bhd (gdP L (k + 1)) (gdP L k) = true
  dst : Dst L L.length
/-- What suits: the error. -/
def Idx (ok : Pl → Bool) (L : List Pl) (X : List Int) (E : Int) : Prop :=
  (¬ PlanOk ok L ∧ E = 1) ∨ (PlanOk ok L ∧ (¬ ∀ k, k < X.length → ixP L (gdI X k) < L.length) ∧ E = 4) ∨ (PlanOk ok L ∧ (∀ k, k < X.length → ixP L (gdI X k) < L.length) ∧ E = 0)
def Sui (ok : Pl → Bool) (L : List Pl) (X : List Int) (E : Int) : Prop :=
  (300 < X.length ∧ E = 2) ∨ (X.length ≤ 300 ∧ ¬ PlanOk ok L ∧ E = 1) ∨ (X.length ≤ 300 ∧ PlanOk ok L ∧ (¬ ∀ k, k < X.length → ixP L (gdI X k) < L.length) ∧ E = 4) ∨
  (X.length ≤ 300 ∧ PlanOk ok L ∧ (∀ k, k < X.length → ixP L (gdI X k) < L.length) ∧ ¬ DstI X X.length ∧ E = 1) ∨
  (X.length ≤ 300 ∧ PlanOk ok L ∧ (∀ k, k < X.length → ixP L (gdI X k) < L.length) ∧ DstI X X.length ∧ E = 0)
theorem Sui.ex (ok : Pl → Bool) (L : List Pl) (X : List Int) : ∃ E, Sui ok L X E := by
  by_cases h1 : 300 < X.length
  · exact ⟨2, .inl ⟨h1, rfl⟩⟩
  by_cases h2 : PlanOk ok L
  · by_cases h3 : ∀ k, k < X.length → ixP L (gdI X k) < L.length
    · by_cases h4 : DstI X X.length
      · exact ⟨0, .inr (.inr (.inr (.inr ⟨by omega, h2, h3, h4, rfl⟩)))⟩
      · exact ⟨1, .inr (.inr (.inr (.inl ⟨by omega, h2, h3, h4, rfl⟩)))⟩
    · exact ⟨4, .inr (.inr (.inl ⟨by omega, h2, h3, rfl⟩))⟩
  · exact ⟨1, .inr (.inl ⟨by omega, h2, rfl⟩)⟩
theorem Sui.zero {ok : Pl → Bool} {L : List Pl} {X : List Int} (h : Sui ok L X 0) : X.length ≤ 300 ∧ PlanOk ok L ∧ (∀ k, k < X.length → ixP L (gdI X k) < L.length) ∧ DstI X X.length := by
  rcases h with ⟨_, e⟩ | ⟨_, _, e⟩ | ⟨_, _, _, e⟩ | ⟨_, _, _, _, e⟩ | ⟨h1, h2, h3, h4, _⟩
  · cases e
  · cases e
  · cases e
  · cases e
  · exact ⟨h1, h2, h3, h4⟩

/-! ### The places of some IDs, in the order of the plan -/
/-- The indices. -/
def sel (L : List Pl) (X : List Int) : List Nat := (List.range L.length).filter (fun i => decide ((gdP L i).id ∈ X))
/-- The indices in the order of the IDs. -/
def ixs (L : List Pl) (X : List Int) : List Int := X.map fun x => (ixP L x : Int)
theorem sel_lt {L : List Pl} {X : List Int} {i : Nat} (h : i ∈ sel L X) : i < L.length := by
  have := (List.mem_filter.1 h).1
  simpa using this
theorem sel_sorted (L : List Pl) (X : List Int) : (sel L X).Pairwise (· < ·) := List.pairwise_lt_range.filter _
theorem sorted_ixs {L : List Pl} {X : List Int} (hd : Dst L L.length) (hX : ∀ k, k < X.length → ixP L (gdI X k) < L.length) (hx : DstI X X.length) :
    (ixs L X).mergeSort (fun x y => decide (x ≤ y)) = (sel L X).map (fun i : Nat => (i : Int)) := by
  have htot : ∀ a b : Int, (decide (a ≤ b) || decide (b ≤ a)) = true := fun a b => by
    rcases Int.le_total a b with h | h <;> simp [h]
  have htr : ∀ a b c : Int, decide (a ≤ b) = true → decide (b ≤ c) = true → decide (a ≤ c) = true := fun a b c h1 h2 => by
    have := of_decide_eq_true h1; have := of_decide_eq_true h2; exact decide_eq_true (by omega)
  have hs := List.pairwise_mergeSort (le := fun x y : Int => decide (x ≤ y)) htr htot (ixs L X)
  have hp := List.mergeSort_perm (ixs L X) (fun x y : Int => decide (x ≤ y))
  have hxn : (ixs L X).Nodup := by
    rw [List.nodup_iff_pairwise_ne]
    unfold ixs
    rw [List.pairwise_map]
    have h2 := hx.nodup
    rw [List.nodup_iff_pairwise_ne] at h2
    refine h2.imp_of_mem fun {a b} ha hb hne e => hne ?_
    obtain ⟨i, hi, rfl⟩ := mem_gdI.1 ha
    obtain ⟨j, hj, rfl⟩ := mem_gdI.1 hb
    have e' : ixP L (gdI X i) = ixP L (gdI X j) := by omega
    rw [← ixP_id (hX i hi), ← ixP_id (hX j hj), e']
  have hsn : ((sel L X).map (fun i : Nat => (i : Int))).Nodup := by
    rw [List.nodup_iff_pairwise_ne, List.pairwise_map]
    exact (sel_sorted L X).imp fun h e => by omega
  have hperm : (ixs L X).Perm ((sel L X).map (fun i : Nat => (i : Int))) := by
    rw [List.perm_ext_iff_of_nodup hxn hsn]
    intro a
    unfold ixs sel
    simp only [List.mem_map, List.mem_filter, List.mem_range, decide_eq_true_eq]
    constructor
    · rintro ⟨x, hx, rfl⟩
      obtain ⟨i, hi, rfl⟩ := mem_gdI.1 hx
      exact ⟨_, ⟨hX i hi, by rw [ixP_id (hX i hi)]; exact hx⟩, rfl⟩
    · rintro ⟨i, ⟨hi, hm⟩, rfl⟩
      exact ⟨_, hm, by rw [ixP_at hd hi]⟩
  refine List.Perm.eq_of_pairwise (le := fun x y : Int => x ≤ y) ?_ ?_ ?_ (hp.trans hperm)
  · intro a b _ _ h1 h2; omega
  · exact hs.imp fun h => of_decide_eq_true h
  · rw [List.pairwise_map]
    exact (sel_sorted L X).imp fun h => by omega
theorem sel_len {L : List Pl} {X : List Int} (hd : Dst L L.length) (hX : ∀ k, k < X.length → ixP L (gdI X k) < L.length) (hx : DstI X X.length) : (sel L X).length = X.length := by
  have h := congrArg List.length (sorted_ixs hd hX hx)
  simpa [ixs] using h.symm

/-! ### Parts -/
/-- A part ends at k. -/
def cutP (S : List Pl) (k : Nat) : Bool := !(decide (k + 1 < S.length) && nxt (gdP S k) (gdP S (k + 1)))
/-- What has ended, and what is under way, behind the first k. -/
def prs (S : List Pl) : Nat → List (List Int) × List Int
  | 0 => ([], [])
  | k + 1 => if cutP S k then ((prs S k).1 ++ [(prs S k).2 ++ [(gdP S k).id]], []) else ((prs S k).1, (prs S k).2 ++ [(gdP S k).id])
def parts (S : List Pl) : List (List Int) := (prs S S.length).1
def selP (L : List Pl) (X : List Int) : List Pl := (sel L X).map (gdP L)
def prt (L : List Pl) (X : List Int) : List (List Int) := parts (selP L X)
theorem prs_cut {S : List Pl} {k : Nat} (h : cutP S k = true) : prs S (k + 1) = ((prs S k).1 ++ [(prs S k).2 ++ [(gdP S k).id]], []) := by show (if _ then _ else _) = _; rw [if_pos h]
theorem prs_go {S : List Pl} {k : Nat} (h : cutP S k = false) : prs S (k + 1) = ((prs S k).1, (prs S k).2 ++ [(gdP S k).id]) := by show (if _ then _ else _) = _; rw [if_neg (by rw [h]; decide)]
end Go.Proofs.Ytgikpcoaennkgaa

namespace Go.Proofs.Ytgikpcoaennkgaa
set_option linter.unusedVariables false
set_option linter.unusedSimpArgs false

def gdL (d : List (List Int)) (i : Nat) : List Int := d.getD i []
theorem gdL_at {d : List (List Int)} {i : Nat} (h : i < d.length) : gdL d i = d[i] := by unfold gdL; rw [List.getD_eq_getElem?_getD, List.getElem?_eq_getElem h]; rfl
theorem gdL_app {d e : List (List Int)} {i : Nat} (h : i < d.length) : gdL (d ++ e) i = gdL d i := by unfold gdL; rw [List.getD_eq_getElem?_getD, List.getD_eq_getElem?_getD, List.getElem?_append_left h]
theorem gdL_last (d : List (List Int)) (c : List Int) : gdL (d ++ [c]) d.length = c := by unfold gdL; rw [List.getD_eq_getElem?_getD, List.getElem?_append_right (Nat.le_refl _)]; simp
theorem gdI_app {d e : List Int} {i : Nat} (h : i < d.length) : gdI (d ++ e) i = gdI d i := by unfold gdI; rw [List.getD_eq_getElem?_getD, List.getD_eq_getElem?_getD, List.getElem?_append_left h]
theorem gdI_last (d : List Int) (c : Int) : gdI (d ++ [c]) d.length = c := by unfold gdI; rw [List.getD_eq_getElem?_getD, List.getElem?_append_right (Nat.le_refl _)]; simp
/-- How many parts have ended ahead of k: the number of the part of the k-th place. -/
def pno (S : List Pl) : Nat → Nat
  | 0 => 0
  | k + 1 => pno S k + if cutP S k = true then 1 else 0
/-- Where part i begins. -/
def stt (d : List (List Int)) : Nat → Nat
  | 0 => 0
  | i + 1 => stt d i + (gdL d i).length
theorem stt_app (d e : List (List Int)) : ∀ i, i ≤ d.length → stt (d ++ e) i = stt d i
  | 0, _ => rfl
  | i + 1, h => by show stt (d ++ e) i + _ = stt d i + _; rw [stt_app d e i (by omega), gdL_app (by omega)]
structure PInv (S : List Pl) (j : Nat) (d : List (List Int)) (c : List Int) : Prop where
  num : pno S j = d.length
  sz : stt d d.length + c.length = j
  pos : ∀ i, i < d.length → 0 < (gdL d i).length
  part : ∀ i, i < d.length → ∀ k, k < (gdL d i).length → gdI (gdL d i) k = (gdP S (stt d i + k)).id ∧ pno S (stt d i + k) = i ∧ (0 < k → nxt (gdP S (stt d i + k - 1)) (gdP S (stt d i + k)) = true)
  cur : ∀ k, k < c.length → gdI c k = (gdP S (stt d d.length + k)).id ∧ pno S (stt d d.length + k) = d.length ∧ (0 < k → nxt (gdP S (stt d d.length + k - 1)) (gdP S (stt d d.length + k)) = true)
  on : c ≠ [] → 0 < j ∧ cutP S (j - 1) = false
theorem cut_false {S : List Pl} {k : Nat} (h : cutP S k = false) : k + 1 < S.length ∧ nxt (gdP S k) (gdP S (k + 1)) = true := by
  unfold cutP at h
  simp at h
  exact h
theorem cut_true {S : List Pl} {k : Nat} (h : cutP S k = true) (hk : k + 1 < S.length) : nxt (gdP S k) (gdP S (k + 1)) = false := by
  unfold cutP at h
  simp at h
  rcases h with h | h
  · omega
  · exact h
theorem pinv (S : List Pl) : ∀ j, j ≤ S.length → PInv S j (prs S j).1 (prs S j).2
  | 0, _ => ⟨rfl, rfl, fun i h => absurd h (Nat.not_lt_zero i), fun i h => absurd h (Nat.not_lt_zero i), fun k h => absurd h (Nat.not_lt_zero k), fun h => absurd rfl h⟩
  | j + 1, hj => by
    have I := pinv S j (by omega)
    generalize hd : (prs S j).1 = d at I
    generalize hc : (prs S j).2 = c at I
    have cur' : ∀ k, k < (c ++ [(gdP S j).id]).length → gdI (c ++ [(gdP S j).id]) k = (gdP S (stt d d.length + k)).id ∧ pno S (stt d d.length + k) = d.length ∧ (0 < k → nxt (gdP S (stt d d.length + k - 1)) (gdP S (stt d d.length + k)) = true) := by
      intro k hk
      rw [List.length_append, List.length_singleton] at hk
      by_cases h : k < c.length
      · rw [gdI_app h]; exact I.cur k h
      · obtain rfl : k = c.length := by omega
        rw [gdI_last, I.sz]
        refine ⟨rfl, I.num, fun h0 => ?_⟩
        have hne : c ≠ [] := fun e => by rw [e] at h0; exact absurd h0 (by decide)
        obtain ⟨h1, h2⟩ := I.on hne
        have h3 := (cut_false h2).2
        rwa [show j - 1 + 1 = j by omega] at h3
    cases hcut : cutP S j with
    | true =>
      rw [prs_cut hcut, hd, hc]
      have e1 : ∀ i, i < d.length → gdL (d ++ [c ++ [(gdP S j).id]]) i = gdL d i := fun i hi => gdL_app hi
      have e2 := gdL_last d (c ++ [(gdP S j).id])
      have e3 : ∀ i, i ≤ d.length → stt (d ++ [c ++ [(gdP S j).id]]) i = stt d i := fun i hi => stt_app d _ i hi
      refine ⟨?_, ?_, ?_, ?_, fun k h => absurd h (Nat.not_lt_zero k), fun h => absurd rfl h⟩
      · show pno S j + (if cutP S j = true then 1 else 0) = _
        rw [if_pos hcut, I.num]; simp
      · simp only [List.length_append, List.length_singleton, List.length_nil, Nat.add_zero]
        show stt _ d.length + (gdL _ d.length).length = _
        rw [e3 _ (Nat.le_refl _), e2]
        have := I.sz
        simp; omega
      · intro i hi
        rw [List.length_append, List.length_singleton] at hi
        by_cases h : i < d.length
        · rw [e1 i h]; exact I.pos i h
        · obtain rfl : i = d.length := by omega
          rw [e2]; simp
      · intro i hi k hk
        rw [List.length_append, List.length_singleton] at hi
        by_cases h : i < d.length
        · rw [e1 i h] at hk ⊢; rw [e3 i (by omega)]; exact I.part i h k hk
        · obtain rfl : i = d.length := by omega
          rw [e2] at hk ⊢; rw [e3 _ (Nat.le_refl _)]; exact cur' k hk
    | false =>
      rw [prs_go hcut, hd, hc]
      refine ⟨?_, ?_, I.pos, I.part, cur', fun _ => ⟨by omega, by simpa using hcut⟩⟩
      · show pno S j + (if cutP S j = true then 1 else 0) = _
        rw [if_neg (by rw [hcut]; decide), I.num]; rfl
      · have := I.sz
        simp; omega
theorem prs_end (S : List Pl) : (prs S S.length).2 = [] := by
  have I := pinv S S.length (Nat.le_refl _)
  generalize (prs S S.length).2 = c at I
  cases c with
  | nil => rfl
  | cons a r =>
    obtain ⟨h1, h2⟩ := I.on (fun e => by cases e)
    have := (cut_false h2).1
    omega
/-- What is known of the parts. -/
structure PFin (S : List Pl) (d : List (List Int)) : Prop where
  num : d.length = pno S S.length
  sz : stt d d.length = S.length
  pos : ∀ i, i < d.length → 0 < (gdL d i).length
  part : ∀ i, i < d.length → ∀ k, k < (gdL d i).length → gdI (gdL d i) k = (gdP S (stt d i + k)).id ∧ pno S (stt d i + k) = i ∧ (0 < k → nxt (gdP S (stt d i + k - 1)) (gdP S (stt d i + k)) = true)
theorem parts_fin (S : List Pl) : PFin S (parts S) := by
  have I := pinv S S.length (Nat.le_refl _)
  have h := I.sz
  rw [prs_end] at h
  exact ⟨I.num.symm, h, I.pos, I.part⟩
theorem stt_mono (d : List (List Int)) : ∀ i j, i ≤ j → stt d i ≤ stt d j := by
  intro i j h
  induction h with
  | refl => exact Nat.le_refl _
  | step _ ih => exact Nat.le_trans ih (Nat.le_add_right _ _)
theorem PFin.lt {S : List Pl} {d : List (List Int)} (h : PFin S d) {i k : Nat} (hi : i < d.length) (hk : k < (gdL d i).length) : stt d i + k < S.length := by
  have h1 := stt_mono d (i + 1) d.length hi
  have h2 : stt d (i + 1) = stt d i + (gdL d i).length := rfl
  have := h.sz
  omega
theorem pno_mono (S : List Pl) {i j : Nat} (h : i ≤ j) : pno S i ≤ pno S j := by
  induction h with
  | refl => exact Nat.le_refl _
  | step _ ih => exact Nat.le_trans ih (Nat.le_add_right _ _)
theorem pno_lt {S : List Pl} {m : Nat} (h : m < S.length) : pno S m < pno S S.length := by
  have h1 : pno S (S.length - 1 + 1) = pno S (S.length - 1) + if cutP S (S.length - 1) = true then 1 else 0 := rfl
  have h2 : cutP S (S.length - 1) = true := by
    unfold cutP
    rw [decide_eq_false (by omega)]; rfl
  rw [if_pos h2, show S.length - 1 + 1 = S.length by omega] at h1
  have := pno_mono S (show m ≤ S.length - 1 by omega)
  omega
theorem prs_len {S : List Pl} {j : Nat} (h : j ≤ S.length) : (prs S j).1.length = pno S j := (pinv S j h).num.symm
theorem prs_prefix (S : List Pl) {j m : Nat} (h : j ≤ m) : ∃ e, (prs S m).1 = (prs S j).1 ++ e := by
  induction h with
  | refl => exact ⟨[], by simp⟩
  | @step m _ ih =>
    obtain ⟨e, he⟩ := ih
    cases hc : cutP S m with
    | true => exact ⟨e ++ [(prs S m).2 ++ [(gdP S m).id]], by rw [prs_cut hc]; show (prs S m).1 ++ _ = _; rw [he, List.append_assoc]⟩
    | false => exact ⟨e, by rw [prs_go hc]; exact he⟩
/-- The part that ends at j. -/
theorem parts_at {S : List Pl} {j : Nat} (hj : j < S.length) (hc : cutP S j = true) : (prs S j).1.length < (parts S).length ∧ gdL (parts S) (prs S j).1.length = (prs S j).2 ++ [(gdP S j).id] := by
  obtain ⟨e, he⟩ := prs_prefix S (show j + 1 ≤ S.length from hj)
  rw [prs_cut hc] at he
  unfold parts
  rw [he]
  refine ⟨by simp, ?_⟩
  rw [gdL_app (by simp)]
  exact gdL_last _ _
theorem prs_cur_len {S : List Pl} {j : Nat} (h : j ≤ S.length) : (prs S j).2.length ≤ j := by have := (pinv S j h).sz; omega
theorem parts_len (S : List Pl) : (parts S).length ≤ S.length := by
  have F := parts_fin S
  have h : ∀ i, i ≤ (parts S).length → i ≤ stt (parts S) i := by
    intro i
    induction i with
    | zero => intro _; exact Nat.zero_le _
    | succ i ih =>
      intro hi
      have h1 := ih (by omega)
      have h2 := F.pos i (by omega)
      show i + 1 ≤ stt (parts S) i + (gdL (parts S) i).length
      omega
  have := h _ (Nat.le_refl _)
  rw [F.sz] at this
  exact this
theorem part_len {S : List Pl} {i : Nat} (hi : i < (parts S).length) : (gdL (parts S) i).length ≤ S.length := by
  have F := parts_fin S
  have h1 := stt_mono (parts S) (i + 1) (parts S).length hi
  have h2 : stt (parts S) (i + 1) = stt (parts S) i + (gdL (parts S) i).length := rfl
  have := F.sz
  omega
/-! ### Places that rise -/
def Ris (S : List Pl) : Prop := ∀ i j, i < j → j < S.length → bhd (gdP S j) (gdP S i) = true
theorem bhd_iff {p q : Pl} : bhd p q = true ↔ q.row < p.row ∨ (p.row = q.row ∧ q.pos < p.pos) := by unfold bhd; simp
theorem nxt_iff {p q : Pl} : nxt p q = true ↔ p.row = q.row ∧ (p.pos - q.pos = 1 ∨ q.pos - p.pos = 1) := by unfold nxt; simp
theorem bhd_trans {p q r : Pl} (h1 : bhd p q = true) (h2 : bhd q r = true) : bhd p r = true := by
  rw [bhd_iff] at *; omega
theorem ris_of {L : List Pl} (h : ∀ k, k + 1 < L.length → bhd (gdP L (k + 1)) (gdP L k) = true) : Ris L := by
  intro i j hij
  induction hij with
  | refl => intro hj; exact h i hj
  | step hm ih => intro hj; exact bhd_trans (h _ hj) (ih (by omega))
theorem nxt_adj {S : List Pl} (hr : Ris S) {i j : Nat} (hij : i < j) (hj : j < S.length) (h : nxt (gdP S i) (gdP S j) = true) : j = i + 1 := by
  by_cases e : j = i + 1
  · exact e
  · exfalso
    have h1 := bhd_iff.1 (hr i (i + 1) (by omega) (by omega))
    have h2 := bhd_iff.1 (hr (i + 1) j (by omega) hj)
    have h3 := nxt_iff.1 h
    omega
theorem nxt_part {S : List Pl} (hr : Ris S) {i j : Nat} (hi : i < S.length) (hj : j < S.length) (h : nxt (gdP S i) (gdP S j) = true) : pno S i = pno S j := by
  have key : ∀ i j, i < j → j < S.length → nxt (gdP S i) (gdP S j) = true → pno S i = pno S j := by
    intro i j hij hj h
    obtain rfl := nxt_adj hr hij hj h
    have hc : cutP S i = false := by unfold cutP; rw [decide_eq_true hj, h]; rfl
    show pno S i = pno S i + (if cutP S i = true then 1 else 0)
    rw [hc]; rfl
  rcases Nat.lt_trichotomy i j with hij | rfl | hij
  · exact key i j hij hj h
  · rfl
  · exact (key j i hij hi (by rw [nxt_comm]; exact h)).symm
theorem gdP_map {L : List Pl} {s : List Nat} {k : Nat} (h : k < s.length) : gdP (s.map (gdP L)) k = gdP L s[k] := by
  rw [gdP_at (by simpa using h)]; simp
theorem selP_ris {L : List Pl} (X : List Int) (hr : Ris L) : Ris (selP L X) := by
  intro i j hij hj
  unfold selP at hj ⊢
  rw [List.length_map] at hj
  rw [gdP_map hj, gdP_map (by omega)]
  exact hr _ _ (List.pairwise_iff_getElem.1 (sel_sorted L X) i j (by omega) hj hij) (sel_lt (List.getElem_mem hj))
end Go.Proofs.Ytgikpcoaennkgaa

namespace Go.Proofs.Ytgikpcoaennkgaa
set_option linter.unusedVariables false
set_option linter.unusedSimpArgs false

/-- The IDs of the places beside place i among the first j. -/
def nrs (L : List Pl) (i : Nat) : Nat → List Int
  | 0 => []
  | k + 1 => nrs L i k ++ if nxt (gdP L i) (gdP L k) = true then [(gdP L k).id] else []
def nrA (L : List Pl) (i j : Nat) : List Int := if 0 < i ∧ i - 1 < j ∧ nxt (gdP L i) (gdP L (i - 1)) = true then [(gdP L (i - 1)).id] else []
def nrB (L : List Pl) (i j : Nat) : List Int := if i + 1 < j ∧ nxt (gdP L i) (gdP L (i + 1)) = true then [(gdP L (i + 1)).id] else []
theorem nr_is {L : List Pl} (hr : Ris L) {i : Nat} (hi : i < L.length) : ∀ j, j ≤ L.length → nrs L i j = nrA L i j ++ nrB L i j
  | 0, _ => by unfold nrA nrB; rw [if_neg (by omega), if_neg (by omega)]; rfl
  | j + 1, hj => by
    show nrs L i j ++ _ = _
    rw [nr_is hr hi j (by omega)]
    rcases Nat.lt_trichotomy j i with h | h | h
    · have eB : ∀ m, m ≤ i → nrB L i (m + 1) = [] := fun m hm => by unfold nrB; rw [if_neg (by omega)]
      have eB0 : nrB L i j = [] := by unfold nrB; rw [if_neg (by omega)]
      rw [eB j (by omega), eB0, List.append_nil, List.append_nil]
      by_cases e : i = j + 1
      · subst e
        have eA : nrA L (j + 1) j = [] := by unfold nrA; rw [if_neg (by omega)]
        rw [eA]
        unfold nrA
        simp only [Nat.add_sub_cancel]
        by_cases hn : nxt (gdP L (j + 1)) (gdP L j) = true
        · rw [if_pos hn, if_pos ⟨by omega, by omega, hn⟩]; rfl
        · rw [if_neg hn, if_neg (fun h => hn h.2.2)]; rfl
      · have hn : ¬ nxt (gdP L i) (gdP L j) = true := fun hn => by
          have := nxt_adj hr h hi (by rw [nxt_comm]; exact hn)
          omega
        rw [if_neg hn, List.append_nil]
        unfold nrA
        rw [if_neg (by omega), if_neg (by omega)]
    · subst h
      rw [nxt_self, if_neg (by decide), List.append_nil]
      unfold nrA nrB
      rw [if_neg (show ¬ (j + 1 < j ∧ _) by omega), if_neg (show ¬ (j + 1 < j + 1 ∧ _) by omega)]
      congr 1
      by_cases hc : 0 < j ∧ j - 1 < j ∧ nxt (gdP L j) (gdP L (j - 1)) = true
      · rw [if_pos hc, if_pos ⟨hc.1, by omega, hc.2.2⟩]
      · rw [if_neg hc, if_neg (fun h => hc ⟨h.1, by omega, h.2.2⟩)]
    · have eA : nrA L i (j + 1) = nrA L i j := by
        unfold nrA
        by_cases hc : 0 < i ∧ i - 1 < j ∧ nxt (gdP L i) (gdP L (i - 1)) = true
        · rw [if_pos hc, if_pos ⟨hc.1, by omega, hc.2.2⟩]
        · rw [if_neg hc, if_neg (fun h => hc ⟨h.1, by omega, h.2.2⟩)]
      rw [eA, List.append_assoc]
      congr 1
      by_cases hn : nxt (gdP L i) (gdP L j) = true
      · obtain rfl := nxt_adj hr h (by omega) hn
        unfold nrB
        rw [if_neg (by omega), if_pos hn, if_pos ⟨by omega, hn⟩]; rfl
      · rw [if_neg hn, List.append_nil]
        unfold nrB
        by_cases hc : i + 1 < j ∧ nxt (gdP L i) (gdP L (i + 1)) = true
        · rw [if_pos hc, if_pos ⟨by omega, hc.2⟩]
        · rw [if_neg hc, if_neg (fun h2 => by
            by_cases e : j = i + 1
            · subst e; exact hn h2.2
            · exact hc ⟨by omega, h2.2⟩)]
theorem nr_few {L : List Pl} (hr : Ris L) {i : Nat} (hi : i < L.length) {j : Nat} (hj : j ≤ L.length) : (nrs L i j).length ≤ 2 := by
  rw [nr_is hr hi j hj]
  unfold nrA nrB
  split <;> split <;> simp
theorem nr_two {L : List Pl} (hr : Ris L) {i : Nat} (hi : i < L.length) (h : (nrs L i L.length).length = 2) :
    ∃ u v, u < L.length ∧ v < L.length ∧ nrs L i L.length = [(gdP L u).id, (gdP L v).id] ∧ nxt (gdP L u) (gdP L v) = false := by
  rw [nr_is hr hi _ (Nat.le_refl _)] at h ⊢
  unfold nrA nrB at h ⊢
  split at h
  · rename_i h1
    split at h
    · rename_i h2
      rw [if_pos h1, if_pos h2]
      refine ⟨i - 1, i + 1, by omega, h2.1, rfl, ?_⟩
      cases hn : nxt (gdP L (i - 1)) (gdP L (i + 1)) with
      | false => rfl
      | true =>
        have := nxt_adj hr (show i - 1 < i + 1 by omega) h2.1 hn
        omega
    · simp at h
  · split at h <;> simp at h
/-! ### One more place -/
def b1 (b : Bool) : Nat := if b = true then 1 else 0
theorem pno_succ (S : List Pl) (k : Nat) : pno S (k + 1) = pno S k + b1 (cutP S k) := rfl
/-- T is S with p between the first s and the others. -/
structure InsP (S T : List Pl) (s : Nat) (p : Pl) : Prop where
  hs : s ≤ S.length
  hl : T.length = S.length + 1
  h1 : ∀ k, k < s → gdP T k = gdP S k
  h2 : gdP T s = p
  h3 : ∀ k, s ≤ k → k < S.length → gdP T (k + 1) = gdP S k
  hr : Ris T
/-- Beside the place ahead, behind. -/
def bsA (S : List Pl) (s : Nat) (p : Pl) : Bool := decide (0 < s) && nxt (gdP S (s - 1)) p
def bsB (S : List Pl) (s : Nat) (p : Pl) : Bool := decide (s < S.length) && nxt p (gdP S s)
section
variable {S T : List Pl} {s : Nat} {p : Pl}
theorem cut_mid (I : InsP S T s p) (h0 : 0 < s) : cutP S (s - 1) = true := by
  obtain ⟨hs, hl, h1, h2, h3, hr⟩ := id I
  cases hc : cutP S (s - 1) with
  | true => rfl
  | false =>
    obtain ⟨h4, h5⟩ := cut_false hc
    rw [show s - 1 + 1 = s by omega] at h4 h5
    rw [← h1 (s - 1) (by omega), ← h3 s (Nat.le_refl _) h4] at h5
    have := nxt_adj hr (show s - 1 < s + 1 by omega) (by omega) h5
    omega
theorem cut_low (I : InsP S T s p) {k : Nat} (hk : k + 1 < s) : cutP T k = cutP S k := by
  obtain ⟨hs, hl, h1, h2, h3, hr⟩ := id I
  unfold cutP
  rw [h1 k (by omega), h1 (k + 1) hk, decide_eq_true (show k + 1 < T.length by omega), decide_eq_true (show k + 1 < S.length by omega)]
theorem cut_high (I : InsP S T s p) {k : Nat} (hk : s ≤ k) (hkn : k < S.length) : cutP T (k + 1) = cutP S k := by
  obtain ⟨hs, hl, h1, h2, h3, hr⟩ := id I
  unfold cutP
  rw [h3 k hk hkn]
  by_cases e : k + 1 < S.length
  · rw [h3 (k + 1) (by omega) e, decide_eq_true (show k + 1 + 1 < T.length by omega), decide_eq_true e]
  · rw [decide_eq_false (show ¬ k + 1 + 1 < T.length by omega), decide_eq_false e]; rfl
theorem cut_mid2 (I : InsP S T s p) : cutP T s = !(bsB S s p) := by
  obtain ⟨hs, hl, h1, h2, h3, hr⟩ := id I
  unfold cutP bsB
  rw [h2]
  by_cases e : s < S.length
  · rw [h3 s (Nat.le_refl _) e, decide_eq_true (show s + 1 < T.length by omega), decide_eq_true e]
  · rw [decide_eq_false (show ¬ s + 1 < T.length by omega), decide_eq_false e]; rfl
theorem pno_low (I : InsP S T s p) : ∀ k, k < s → pno T k = pno S k
  | 0, _ => rfl
  | k + 1, hk => by rw [pno_succ, pno_succ, pno_low I k (by omega), cut_low I hk]
theorem pno_high (I : InsP S T s p) : ∀ k, s ≤ k → k ≤ S.length → pno T (k + 1) + pno S s = pno T (s + 1) + pno S k := by
  obtain ⟨hs, hl, h1, h2, h3, hr⟩ := id I
  intro k hk
  induction hk with
  | refl => intro _; rfl
  | step hm ih =>
    intro hn
    have := ih (by omega)
    rw [pno_succ T, pno_succ S, cut_high I hm (by omega)]
    omega
theorem pno_all (I : InsP S T s p) : pno T T.length + b1 (bsA S s p) + b1 (bsB S s p) = pno S S.length + 1 := by
  obtain ⟨hs, hl, h1, h2, h3, hr⟩ := id I
  have e1 := pno_high I S.length hs (Nat.le_refl _)
  rw [hl]
  have e2 : pno T (s + 1) = pno T s + b1 (cutP T s) := rfl
  rw [cut_mid2 I] at e2
  have eb : b1 (!(bsB S s p)) + b1 (bsB S s p) = 1 := by cases bsB S s p <;> rfl
  by_cases h0 : 0 < s
  · have e3 : pno T (s - 1 + 1) = pno T (s - 1) + b1 (cutP T (s - 1)) := rfl
    have e4 : pno S (s - 1 + 1) = pno S (s - 1) + b1 (cutP S (s - 1)) := rfl
    rw [cut_mid I h0] at e4
    rw [show s - 1 + 1 = s by omega] at e3 e4
    rw [pno_low I (s - 1) (by omega)] at e3
    have e5 : cutP T (s - 1) = !(bsA S s p) := by
      unfold cutP bsA
      rw [show s - 1 + 1 = s by omega, h2, h1 (s - 1) (by omega), decide_eq_true (show s < T.length by omega), decide_eq_true h0]
    rw [e5] at e3
    have ea : b1 (!(bsA S s p)) + b1 (bsA S s p) = 1 := by cases bsA S s p <;> rfl
    have e6 : b1 true = 1 := rfl
    omega
  · obtain rfl : s = 0 := by omega
    have ea : bsA S 0 p = false := rfl
    have e6 : b1 false = 0 := rfl
    have e7 : pno T 0 = 0 := rfl
    have e8 : pno S 0 = 0 := rfl
    rw [ea]
    omega
/-- Who is beside the further place. -/
theorem near_iff (I : InsP S T s p) {m : Nat} (hm : m < S.length) : nxt (gdP S m) p = true ↔ (bsA S s p = true ∧ m + 1 = s) ∨ (bsB S s p = true ∧ m = s) := by
  obtain ⟨hs, hl, h1, h2, h3, hr⟩ := id I
  constructor
  · intro h
    by_cases hms : m < s
    · have h4 : nxt (gdP T m) (gdP T s) = true := by rw [h1 m hms, h2]; exact h
      have h5 := nxt_adj hr hms (by omega) h4
      left
      refine ⟨?_, by omega⟩
      unfold bsA
      rw [decide_eq_true (show 0 < s by omega), show s - 1 = m by omega, h]; rfl
    · have h4 : nxt (gdP T s) (gdP T (m + 1)) = true := by rw [h3 m (by omega) hm, h2, nxt_comm]; exact h
      have h5 := nxt_adj hr (show s < m + 1 by omega) (by omega) h4
      right
      refine ⟨?_, by omega⟩
      obtain rfl : m = s := by omega
      unfold bsB
      rw [decide_eq_true hm, nxt_comm, h]; rfl
  · rintro (⟨h, e⟩ | ⟨h, rfl⟩)
    · unfold bsA at h
      simp at h
      rw [show m = s - 1 by omega]; exact h.2
    · unfold bsB at h
      simp at h
      rw [nxt_comm]; exact h.2
end
/-- Some place of part i is beside. -/
def nea (S : List Pl) (d : List (List Int)) (p : Pl) (i k : Nat) : Bool := decide (∃ j, j < k ∧ nxt (gdP S (stt d i + j)) p = true)
theorem nea_succ (S : List Pl) (d : List (List Int)) (p : Pl) (i k : Nat) : nea S d p i (k + 1) = (nea S d p i k || nxt (gdP S (stt d i + k)) p) := by
  unfold nea
  cases hn : nxt (gdP S (stt d i + k)) p with
  | true => rw [Bool.or_true]; exact decide_eq_true ⟨k, Nat.lt_succ_self k, hn⟩
  | false =>
    rw [Bool.or_false]
    refine decide_eq_decide.2 ⟨fun ⟨j, hj, h⟩ => ?_, fun ⟨j, hj, h⟩ => ⟨j, by omega, h⟩⟩
    by_cases e : j = k
    · subst e; rw [hn] at h; cases h
    · exact ⟨j, by omega, h⟩
/-- How many of the first i parts are touched. -/
def tch (S : List Pl) (d : List (List Int)) (p : Pl) : Nat → Nat
  | 0 => 0
  | i + 1 => tch S d p i + b1 (nea S d p i (gdL d i).length)
theorem tch_le (S : List Pl) (d : List (List Int)) (p : Pl) : ∀ i, tch S d p i ≤ i
  | 0 => Nat.le_refl _
  | i + 1 => by
    have := tch_le S d p i
    show tch S d p i + b1 _ ≤ _
    unfold b1; split <;> omega
theorem stt_find (d : List (List Int)) : ∀ (n m : Nat), n ≤ d.length → m < stt d n → ∃ i, i < n ∧ stt d i ≤ m ∧ m < stt d i + (gdL d i).length
  | 0, m, _, h => absurd h (Nat.not_lt_zero m)
  | n + 1, m, hn, h => by
    by_cases e : m < stt d n
    · obtain ⟨i, hi, h1, h2⟩ := stt_find d n m (by omega) e
      exact ⟨i, by omega, h1, h2⟩
    · exact ⟨n, Nat.lt_succ_self n, by omega, h⟩
theorem further {S T : List Pl} {s : Nat} {p : Pl} (I : InsP S T s p) :
    (parts T).length + tch S (parts S) p (parts S).length = (parts S).length + 1 := by
  obtain ⟨hs, hl, h1, h2, h3, hr⟩ := id I
  have F := parts_fin S
  have G := parts_fin T
  have e1 := pno_all I
  have hN := F.num
  rw [G.num]
  generalize hd : parts S = d at F hN ⊢
  have hnear : ∀ i, i < d.length → (nea S d p i (gdL d i).length = true ↔ (bsA S s p = true ∧ 0 < s ∧ i = pno S (s - 1)) ∨ (bsB S s p = true ∧ s < S.length ∧ i = pno S s)) := by
    intro i hi
    unfold nea
    rw [decide_eq_true_iff]
    constructor
    · rintro ⟨j, hj, h⟩
      have hm := F.lt hi hj
      have hp := (F.part i hi j hj).2.1
      rcases (near_iff I hm).1 h with ⟨ha, e⟩ | ⟨hb, e⟩
      · left
        refine ⟨ha, by omega, ?_⟩
        rw [← e, Nat.add_sub_cancel]; exact hp.symm
      · right
        refine ⟨hb, by omega, ?_⟩
        rw [← e]; exact hp.symm
    · have key : ∀ m, m < S.length → i = pno S m → nxt (gdP S m) p = true → ∃ j, j < (gdL d i).length ∧ nxt (gdP S (stt d i + j)) p = true := by
        intro m hm hi' h
        obtain ⟨i', hi1, h4, h5⟩ := stt_find d d.length m (Nat.le_refl _) (by rw [F.sz]; exact hm)
        have hp := (F.part i' hi1 (m - stt d i') (by omega)).2.1
        rw [show stt d i' + (m - stt d i') = m by omega] at hp
        obtain rfl : i' = i := by omega
        exact ⟨m - stt d i', by omega, by rw [show stt d i' + (m - stt d i') = m by omega]; exact h⟩
      rintro (⟨ha, h0, e⟩ | ⟨hb, h0, e⟩)
      · exact key (s - 1) (by omega) e ((near_iff I (by omega)).2 (.inl ⟨ha, by omega⟩))
      · exact key s h0 e ((near_iff I h0).2 (.inr ⟨hb, rfl⟩))
  have hne : 0 < s → pno S s = pno S (s - 1) + 1 := fun h0 => by
    have e4 : pno S (s - 1 + 1) = pno S (s - 1) + b1 (cutP S (s - 1)) := rfl
    rw [cut_mid I h0, show s - 1 + 1 = s by omega] at e4
    exact e4
  have hA0 : bsA S s p = true → 0 < s := fun h => by unfold bsA at h; simp at h; exact h.1
  have hB0 : bsB S s p = true → s < S.length := fun h => by unfold bsB at h; simp at h; exact h.1
  have ht : ∀ i, i ≤ d.length → tch S d p i = (if bsA S s p = true ∧ pno S (s - 1) < i then 1 else 0) + (if bsB S s p = true ∧ pno S s < i then 1 else 0) := by
    intro i
    induction i with
    | zero => intro _; rw [if_neg (by omega), if_neg (by omega)]; rfl
    | succ i ih =>
      intro hi
      show tch S d p i + b1 (nea S d p i (gdL d i).length) = _
      rw [ih (by omega)]
      have hn := hnear i (by omega)
      unfold b1
      by_cases ha : bsA S s p = true
      · have h0 := hA0 ha
        have := hne h0
        by_cases hb : bsB S s p = true
        · have hb0 := hB0 hb
          simp only [ha, hb, true_and, h0, hb0] at hn ⊢
          by_cases hnn : nea S d p i (gdL d i).length = true
          · rw [if_pos hnn]; rcases hn.1 hnn with e | e <;> subst e <;> (repeat' split) <;> omega
          · rw [if_neg hnn]
            have : ¬ (i = pno S (s - 1) ∨ i = pno S s) := fun h => hnn (hn.2 h)
            (repeat' split) <;> omega
        · simp only [ha, hb, true_and, h0, false_and, or_false, Bool.false_eq_true] at hn ⊢
          by_cases hnn : nea S d p i (gdL d i).length = true
          · rw [if_pos hnn]; have e := hn.1 hnn; subst e; (repeat' split) <;> omega
          · rw [if_neg hnn]
            have : ¬ (i = pno S (s - 1)) := fun h => hnn (hn.2 h)
            (repeat' split) <;> omega
      · by_cases hb : bsB S s p = true
        · have hb0 := hB0 hb
          simp only [ha, hb, true_and, hb0, false_and, false_or, Bool.false_eq_true] at hn ⊢
          by_cases hnn : nea S d p i (gdL d i).length = true
          · rw [if_pos hnn]; have e := hn.1 hnn; subst e; (repeat' split) <;> omega
          · rw [if_neg hnn]
            have : ¬ (i = pno S s) := fun h => hnn (hn.2 h)
            (repeat' split) <;> omega
        · simp only [ha, hb, false_and, or_false, Bool.false_eq_true, iff_false] at hn ⊢
          rw [if_neg hn]; (repeat' split) <;> omega
  rw [ht _ (Nat.le_refl _)]
  have hA1 : (if bsA S s p = true ∧ pno S (s - 1) < d.length then 1 else 0) = b1 (bsA S s p) := by
    unfold b1
    by_cases ha : bsA S s p = true
    · rw [if_pos ha, if_pos ⟨ha, by rw [hN]; exact pno_lt (by have := hA0 ha; omega)⟩]
    · rw [if_neg ha, if_neg (fun h => ha h.1)]
  have hB1 : (if bsB S s p = true ∧ pno S s < d.length then 1 else 0) = b1 (bsB S s p) := by
    unfold b1
    by_cases hb : bsB S s p = true
    · rw [if_pos hb, if_pos ⟨hb, by rw [hN]; exact pno_lt (hB0 hb)⟩]
    · rw [if_neg hb, if_neg (fun h => hb h.1)]
  rw [hA1, hB1, hN]
  omega
theorem sorted_ext {s t : List Nat} (hs : s.Pairwise (· < ·)) (ht : t.Pairwise (· < ·)) (h : ∀ a, a ∈ s ↔ a ∈ t) : s = t := by
  have n1 : s.Nodup := by rw [List.nodup_iff_pairwise_ne]; exact hs.imp fun h => by omega
  have n2 : t.Nodup := by rw [List.nodup_iff_pairwise_ne]; exact ht.imp fun h => by omega
  have hp : s.Perm t := by rw [List.perm_ext_iff_of_nodup n1 n2]; exact h
  exact List.Perm.eq_of_pairwise (le := fun x y : Nat => x ≤ y) (fun a b _ _ h1 h2 => by omega) (hs.imp fun h => by omega) (ht.imp fun h => by omega) hp
theorem further_sel {L : List Pl} {X : List Int} {x : Int} (hr : Ris L) (hd : Dst L L.length) (hx : x ∉ X) (hi : ixP L x < L.length) :
    (prt L (X ++ [x])).length + tch (selP L X) (prt L X) (gdP L (ixP L x)) (prt L X).length = (prt L X).length + 1 := by
  have hmem : ∀ i, i ∈ sel L (X ++ [x]) ↔ i ∈ sel L X ∨ i = ixP L x := by
    intro i
    unfold sel
    simp only [List.mem_filter, List.mem_range, decide_eq_true_eq, List.mem_append, List.mem_singleton]
    constructor
    · rintro ⟨h1, h2 | h2⟩
      · exact .inl ⟨h1, h2⟩
      · right; rw [← h2, ixP_at hd h1]
    · rintro (⟨h1, h2⟩ | rfl)
      · exact ⟨h1, .inl h2⟩
      · exact ⟨hi, .inr (ixP_id hi)⟩
  have hno : ixP L x ∉ sel L X := by
    unfold sel
    simp only [List.mem_filter, List.mem_range, decide_eq_true_eq]
    rintro ⟨_, h⟩
    rw [ixP_id hi] at h
    exact hx h
  generalize ha : ixP L x = a at *
  have hS := sel_sorted L X
  have hT := sel_sorted L (X ++ [x])
  have e1 : sel L X = (sel L X).filter (fun i => decide (i < a)) ++ (sel L X).filter (fun i => decide (a < i)) := by
    refine sorted_ext hS ?_ ?_
    · rw [List.pairwise_append]
      refine ⟨hS.filter _, hS.filter _, fun u hu v hv => ?_⟩
      have h1 := of_decide_eq_true (List.mem_filter.1 hu).2
      have h2 := of_decide_eq_true (List.mem_filter.1 hv).2
      omega
    · intro u
      simp only [List.mem_append, List.mem_filter, decide_eq_true_eq]
      constructor
      · intro h
        rcases Nat.lt_trichotomy u a with hh | hh | hh
        · exact .inl ⟨h, hh⟩
        · subst hh; exact absurd h hno
        · exact .inr ⟨h, hh⟩
      · rintro (h | h) <;> exact h.1
  have e2 : sel L (X ++ [x]) = (sel L X).filter (fun i => decide (i < a)) ++ a :: (sel L X).filter (fun i => decide (a < i)) := by
    refine sorted_ext hT ?_ ?_
    · rw [List.pairwise_append]
      refine ⟨hS.filter _, ?_, fun u hu v hv => ?_⟩
      · rw [List.pairwise_cons]
        exact ⟨fun v hv => of_decide_eq_true (List.mem_filter.1 hv).2, hS.filter _⟩
      · have h1 := of_decide_eq_true (List.mem_filter.1 hu).2
        rcases List.mem_cons.1 hv with rfl | hv
        · exact h1
        · have h2 := of_decide_eq_true (List.mem_filter.1 hv).2
          omega
    · intro u
      rw [hmem]
      simp only [List.mem_append, List.mem_cons, List.mem_filter, decide_eq_true_eq]
      constructor
      · rintro (h | rfl)
        · rcases Nat.lt_trichotomy u a with hh | hh | hh
          · exact .inl ⟨h, hh⟩
          · exact .inr (.inl hh)
          · exact .inr (.inr ⟨h, hh⟩)
        · exact .inr (.inl rfl)
      · rintro (h | h | h)
        · exact .inl h.1
        · exact .inr h
        · exact .inl h.1
  generalize (sel L X).filter (fun i => decide (i < a)) = S1 at e1 e2
  generalize (sel L X).filter (fun i => decide (a < i)) = S2 at e1 e2
  have f1 : selP L X = S1.map (gdP L) ++ S2.map (gdP L) := by unfold selP; rw [e1, List.map_append]
  have f2 : selP L (X ++ [x]) = S1.map (gdP L) ++ gdP L a :: S2.map (gdP L) := by unfold selP; rw [e2, List.map_append, List.map_cons]
  have hrT := selP_ris (X ++ [x]) hr
  unfold prt
  rw [f1, f2] at *
  generalize S1.map (gdP L) = A at *
  generalize S2.map (gdP L) = B at *
  generalize gdP L a = p at *
  refine further (s := A.length) ⟨by simp, by simp; omega, fun k hk => ?_, ?_, fun k hk hk2 => ?_, hrT⟩
  · unfold gdP; rw [List.getD_eq_getElem?_getD, List.getD_eq_getElem?_getD, List.getElem?_append_left hk, List.getElem?_append_left hk]
  · unfold gdP; rw [List.getD_eq_getElem?_getD, List.getElem?_append_right (Nat.le_refl _)]; simp
  · unfold gdP; rw [List.getD_eq_getElem?_getD, List.getD_eq_getElem?_getD, List.getElem?_append_right (by omega), List.getElem?_append_right hk, show k + 1 - A.length = (k - A.length) + 1 by omega, List.getElem?_cons_succ]
end Go.Proofs.Ytgikpcoaennkgaa

namespace Go.Proofs.Ytgikpcoaennkgaa
open Go.RowKit Go.Sort
open Go.RowKit (Below)
set_option linter.unusedVariables false
set_option linter.unusedSimpArgs false
attribute [local go_sem] Oper.semAt_some

/-- A place is valid by itself. -/
def plOk (p : Pl) : Bool := vv p.ex p.ey p.ez && (decide (1 ≤ p.id) && decide (p.id ≤ 1000000)) && rw_ p.row && rw_ p.pos && (decide (p.kd = 1) || decide (p.kd = 2))
theorem plOk_rng {p : Pl} (h : plOk p = true) : (1 ≤ p.id ∧ p.id ≤ 1000000) ∧ (0 ≤ p.row ∧ p.row ≤ 99) ∧ (0 ≤ p.pos ∧ p.pos ≤ 99) := by
  unfold plOk rw_ at h
  simp only [Bool.and_eq_true, decide_eq_true_eq] at h
  obtain ⟨⟨⟨⟨_, h1⟩, h2⟩, h3⟩, _⟩ := h
  exact ⟨h1, h2, h3⟩
def PlOk3 (L : List Pl) : Prop := PlanOk plOk L
/-- A plan that can be read. -/
def PlS (w : World) (A : Option Addr) (L : List Pl) : Prop :=
  ∀ k, k < L.length → ∃ b o, A = some ⟨b, o, none⟩ ∧ w.cell? ⟨b, o + k * 7, none⟩ = some (.int .i64 (gdP L k).id) ∧ w.cell? ⟨b, o + k * 7 + 1, none⟩ = some (.int .i64 (gdP L k).row) ∧ w.cell? ⟨b, o + k * 7 + 2, none⟩ = some (.int .i64 (gdP L k).pos) ∧ w.cell? ⟨b, o + k * 7 + 3, none⟩ = some (.int .i64 (gdP L k).ex) ∧ w.cell? ⟨b, o + k * 7 + 4, none⟩ = some (.int .i64 (gdP L k).ey) ∧ w.cell? ⟨b, o + k * 7 + 5, none⟩ = some (.int .i64 (gdP L k).ez) ∧ w.cell? ⟨b, o + k * 7 + 6, none⟩ = some (.int .i64 (gdP L k).kd)
/-- Numbers that can be read. -/
def InS (w : World) (A : Option Addr) (X : List Int) : Prop :=
  ∀ k, k < X.length → ∃ b o, A = some ⟨b, o, none⟩ ∧ w.cell? ⟨b, o + k, none⟩ = some (.int .i64 (gdI X k))
theorem PlS.below {w w' : World} {A : Option Addr} {L : List Pl} (h : PlS w A L) (hb : Below w.heap.size w w') : PlS w' A L := fun k hk => by
  obtain ⟨b, o, e, h0, h1, h2, h3, h4, h5, h6⟩ := h k hk
  exact ⟨b, o, e, cell_low hb h0, cell_low hb h1, cell_low hb h2, cell_low hb h3, cell_low hb h4, cell_low hb h5, cell_low hb h6⟩
theorem InS.below {w w' : World} {A : Option Addr} {X : List Int} (h : InS w A X) (hb : Below w.heap.size w w') : InS w' A X := fun k hk => by
  obtain ⟨b, o, e, h0⟩ := h k hk
  exact ⟨b, o, e, cell_low hb h0⟩
theorem InS.take {w : World} {A : Option Addr} {X : List Int} (h : InS w A X) (n : Nat) : InS w A (X.take n) := fun k hk => by
  rw [List.length_take] at hk
  rw [gdI_take (by omega)]
  exact h k (by omega)
theorem InS.nil (w : World) (A : Option Addr) : InS w A [] := fun k hk => absurd hk (Nat.not_lt_zero k)
theorem PlS.nil (w : World) (A : Option Addr) : PlS w A [] := fun k hk => absurd hk (Nat.not_lt_zero k)
/-- A list that the call has built can be read. -/
theorem InS.own {w : World} {base e n : Nat} {v : Value} {X : List Int} (h : w.ownsRow base e 1 v n (X.map (Value.int .i64))) : ∃ A C, v = .slice A n C ∧ InS w A X ∧ n = X.length ∧ n ≤ C ∧ C ≤ maxLen ∧ (A = none → C = 0) := by
  have hn := h.1
  rcases h.2 with ⟨rfl, rfl⟩ | ⟨g, cap, cur, rfl, hbg, hb, hnc, hcm, hcs, hxs⟩
  · have : X = [] := by simpa using hn
    subst this
    exact ⟨none, 0, rfl, InS.nil _ _, rfl, Nat.le_refl _, Nat.zero_le _, fun _ => rfl⟩
  · refine ⟨some ⟨g, 0, none⟩, cap, rfl, fun k hk => ⟨g, 0, rfl, ?_⟩, by simpa using hn.symm, hnc, hcm, fun e => by cases e⟩
    have := h.cells (g := g) rfl k (.int .i64 (gdI X k)) (by rw [List.getElem?_map, List.getElem?_eq_getElem hk, gdI_at hk]; rfl)
    rwa [add_plain] at this
/-- Lists of numbers that can be read. -/
def LLS (w : World) (A : Option Addr) (d : List (List Int)) : Prop :=
  ∀ i, i < d.length → ∃ b o a c, A = some ⟨b, o, none⟩ ∧ w.cell? ⟨b, o + i, none⟩ = some (.slice a (gdL d i).length c) ∧ InS w a (gdL d i)
theorem LLS.below {w w' : World} {A : Option Addr} {d : List (List Int)} (h : LLS w A d) (hb : Below w.heap.size w w') : LLS w' A d := fun k hk => by
  obtain ⟨b, o, a, c, e, h0, h1⟩ := h k hk
  exact ⟨b, o, a, c, e, cell_low hb h0, h1.below hb⟩
theorem LLS.nil (w : World) (A : Option Addr) : LLS w A [] := fun k hk => absurd hk (Nat.not_lt_zero k)
theorem wr_sub {a b : Int} (ha : 0 ≤ a ∧ a ≤ 99) (hb : 0 ≤ b ∧ b ≤ 99) : IntKind.i64.wrap (a - b) = a - b := IntWalk.i64_in _ ⟨by omega, by omega⟩
theorem wr_sub' {a b : Int} (ha : 0 ≤ a ∧ a ≤ 99) (hb : 0 ≤ b ∧ b ≤ 99) : wrap64 (a - b) = a - b := IntWalk.wrap64_in _ ⟨by omega, by omega⟩
end Go.Proofs.Ytgikpcoaennkgaa
