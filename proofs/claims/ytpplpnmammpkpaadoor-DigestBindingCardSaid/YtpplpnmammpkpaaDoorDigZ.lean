/-
  Plain facts: two ways up a tree that come to one root; bytes as strings.
-/
import Derived.Test.YtpplpnmammpkpaaDoorDigY
import Derived.Laws.BytesArg
namespace Go.Proofs.YtpplpnmammpkpaaDoor
open Go.RowKit Go.Sort
open Go.RowKit (Below)
set_option linter.unusedVariables false

theorem strB_num {l : List Int} (h : ∀ x ∈ l, U8 x) : strB (strOfNums l) = l := by
  unfold strB
  rw [strOfNums_data, List.map_map]
  refine (List.map_congr_left fun x hx => ?_).trans (List.map_id l)
  obtain ⟨h1, h2⟩ := h x hx
  have : (UInt8.ofNat x.toNat).toNat = x.toNat := by simp; omega
  show ((UInt8.ofNat x.toNat).toNat : Int) = x
  rw [this]; omega
theorem str_inj {la lb : List Int} (ha : ∀ x ∈ la, U8 x) (hb : ∀ x ∈ lb, U8 x) (e : strOfNums la = strOfNums lb) : la = lb := by
  rw [← strB_num ha, ← strB_num hb, e]
theorem byB_pair (a b : Int) : byB 1 [a, b] = pairB a b := byB_two 1 a b
theorem byB_leaf (a : Int) : byB 0 [a] = leafB a := byB_one 0 a
theorem byB_u {m : Int} (hm : U8 m) (xs : List Int) : ∀ x ∈ byB m xs, U8 x := by
  intro x hx
  unfold byB at hx
  rcases List.mem_cons.1 hx with rfl | hx
  · exact hm
  · obtain ⟨y, _, h⟩ := List.mem_flatMap.1 hx
    exact be8_u y x h
theorem drop_cons {p : List Int} {k : Nat} (h : k < p.length) : p.drop k = gd p k :: p.drop (k + 1) := by rw [List.drop_eq_getElem_cons h, gd_at h]

/-- Two ways that come to one root, somewhere on them. -/
structure CI (r : Int) (i n k : Nat) (la lb path beside : List Int) : Prop where
  ha : chkW r (dig la) i n (path.drop k) = true
  hb : chkW r (dig lb) i n (beside.drop k) = true
  ne : ¬ (la = lb ∧ path.drop k = beside.drop k)
  ua : ∀ x ∈ la, U8 x
  ub : ∀ x ∈ lb, U8 x
  hi : i < n
  hn : n ≤ 1024
theorem CI.up {r : Int} {i n k : Nat} {la lb path beside : List Int} (c : CI r i n k la lb path beside) (h : 1 < n) (ho : ¬ i % 2 = 1) (hj : ¬ i + 1 < n) : CI r (i / 2) ((n + 1) / 2) k la lb path beside where
  ha := by rw [← chkW_up _ _ _ _ _ h ho hj]; exact c.ha
  hb := by rw [← chkW_up _ _ _ _ _ h ho hj]; exact c.hb
  ne := c.ne
  ua := c.ua
  ub := c.ub
  hi := by have := c.hi; omega
  hn := by have := c.hn; omega
theorem CI.last {r : Int} {i n k : Nat} {la lb path beside : List Int} (c : CI r i n k la lb path beside) (h : ¬ 1 < n) (nc : la = lb ∨ dig la ≠ dig lb) : False := by
  have h1 := c.ha
  have h2 := c.hb
  rw [chkW_one _ _ _ _ _ h] at h1 h2
  simp at h1 h2
  have hd : dig la = dig lb := by rw [h1.2, h2.2]
  have e : la = lb := nc.resolve_right fun hne => hne hd
  exact c.ne ⟨e, by rw [List.drop_eq_nil_of_le h1.1, List.drop_eq_nil_of_le h2.1]⟩
theorem CI.lens {r : Int} {i n k : Nat} {la lb path beside : List Int} (c : CI r i n k la lb path beside) (h : 1 < n) (hs : i % 2 = 1 ∨ i + 1 < n) : k < path.length ∧ k < beside.length := by
  have key : ∀ (way : Int) (p : List Int), chkW r way i n (p.drop k) = true → k < p.length := by
    intro way p hp
    apply Classical.byContradiction
    intro hk
    rw [List.drop_eq_nil_of_le (by omega)] at hp
    by_cases ho : i % 2 = 1
    · rw [chkW_odd0 _ _ _ _ h ho] at hp; cases hp
    · rw [chkW_even0 _ _ _ _ h ho (by omega)] at hp; cases hp
  exact ⟨key _ _ c.ha, key _ _ c.hb⟩
theorem CI.odd {r : Int} {i n k : Nat} {la lb path beside : List Int} (c : CI r i n k la lb path beside) (h : 1 < n) (ho : i % 2 = 1) (nc : la = lb ∨ dig la ≠ dig lb) (hp : ∀ x ∈ path, U64 x) (hq : ∀ x ∈ beside, U64 x) :
    CI r (i / 2) ((n + 1) / 2) (k + 1) (byB 1 [gd path k, dig la]) (byB 1 [gd beside k, dig lb]) path beside := by
  obtain ⟨l1, l2⟩ := c.lens h (.inl ho)
  have h1 := c.ha
  have h2 := c.hb
  rw [drop_cons l1, chkW_odd _ _ _ _ _ _ h ho] at h1
  rw [drop_cons l2, chkW_odd _ _ _ _ _ _ h ho] at h2
  refine ⟨by rw [byB_pair]; exact h1, by rw [byB_pair]; exact h2, ?_, byB_u (by constructor <;> decide) _, byB_u (by constructor <;> decide) _, by have := c.hi; omega, by have := c.hn; omega⟩
  rintro ⟨e1, e2⟩
  rw [byB_pair, byB_pair] at e1
  obtain ⟨e3, e4⟩ := pairB_inj (gd_u hp k) (dig_u la) (gd_u hq k) (dig_u lb) e1
  exact c.ne ⟨nc.resolve_right fun hne => hne e4, by rw [drop_cons l1, drop_cons l2, e3, e2]⟩
theorem CI.even {r : Int} {i n k : Nat} {la lb path beside : List Int} (c : CI r i n k la lb path beside) (h : 1 < n) (ho : ¬ i % 2 = 1) (hj : i + 1 < n) (nc : la = lb ∨ dig la ≠ dig lb) (hp : ∀ x ∈ path, U64 x) (hq : ∀ x ∈ beside, U64 x) :
    CI r (i / 2) ((n + 1) / 2) (k + 1) (byB 1 [dig la, gd path k]) (byB 1 [dig lb, gd beside k]) path beside := by
  obtain ⟨l1, l2⟩ := c.lens h (.inr hj)
  have h1 := c.ha
  have h2 := c.hb
  rw [drop_cons l1, chkW_even _ _ _ _ _ _ h ho hj] at h1
  rw [drop_cons l2, chkW_even _ _ _ _ _ _ h ho hj] at h2
  refine ⟨by rw [byB_pair]; exact h1, by rw [byB_pair]; exact h2, ?_, byB_u (by constructor <;> decide) _, byB_u (by constructor <;> decide) _, by have := c.hi; omega, by have := c.hn; omega⟩
  rintro ⟨e1, e2⟩
  rw [byB_pair, byB_pair] at e1
  obtain ⟨e4, e3⟩ := pairB_inj (dig_u la) (gd_u hp k) (dig_u lb) (gd_u hq k) e1
  exact c.ne ⟨nc.resolve_right fun hne => hne e4, by rw [drop_cons l1, drop_cons l2, e3, e2]⟩
theorem CI.start {r leaf other : Int} {i n : Nat} {path beside : List Int} (h1 : chkW r (leafN leaf) i n path = true) (h2 : chkW r (leafN other) i n beside = true) (hne : ¬ (leaf = other ∧ path = beside)) (hl : U64 leaf) (ho : U64 other) (hi : i < n) (hn : n ≤ 1024) :
    CI r i n 0 (byB 0 [leaf]) (byB 0 [other]) path beside where
  ha := by rw [byB_leaf, List.drop_zero]; exact h1
  hb := by rw [byB_leaf, List.drop_zero]; exact h2
  ne := by
    rintro ⟨e1, e2⟩
    rw [byB_leaf, byB_leaf] at e1
    exact hne ⟨leafB_inj hl ho e1, by simpa using e2⟩
  ua := byB_u (by constructor <;> decide) _
  ub := byB_u (by constructor <;> decide) _
  hi := hi
  hn := hn
theorem sk_cells2 {k : IntKind} {w : World} {g : Nat} {p x : Int} (h0 : w.cell? ⟨g, 0, none⟩ = some (.int k p)) (h1 : w.cell? ⟨g, 1, none⟩ = some (.int k x)) : Sk k w (some ⟨g, 0, none⟩) [p, x] := by
  intro j hj
  refine ⟨g, 0, rfl, ?_⟩
  match j, hj with
  | 0, _ => exact h0
  | 1, _ => exact h1
/-- Bytes as a string. -/
theorem conv_str {b o C : Nat} {l : List Int} {w : World} (h : Sk .u8 w (some ⟨b, o, none⟩) l) : (convert 22 9 (.slice (some ⟨b, o, none⟩) l.length C)).run Tryd.prog w = .ok (.string (strOfNums l)) w :=
  run_convert_bytes_arg w _ 5 Tryd.underlying22 Tryd.underlying5 b o l.length C l rfl (fun i hi => sk_here h hi) _ Tryd.underlying9
end Go.Proofs.YtpplpnmammpkpaaDoor
