/-
  Plain tools, no function of the program: slices of numbers of any kind; rows that a call has made; an append of whatever can be read.
-/
import Derived.Test.YtjjimbaogpmbmaaGenA
import Derived.Maps.AppendAt
import Derived.Deep.AppendLies
import Derived.Lib.AppendStr
import Derived.Laws.CopyOwn
namespace Go.Proofs.Ytjjimbaogpmbmaa
open Go.RowKit Go.Sort
open Go.RowKit (Below)
set_option linter.unusedVariables false
set_option linter.unusedSimpArgs false

/-- The slice at A reads as the numbers xs of kind k. -/
def Sk (k : IntKind) (w : World) (A : Option Addr) (xs : List Int) : Prop := ∀ j, j < xs.length → ∃ b o, A = some ⟨b, o, none⟩ ∧ w.cell? ⟨b, o + j, none⟩ = some (.int k (gd xs j))
section
variable {k : IntKind} {w w' : World} {A : Option Addr} {xs ys : List Int}
theorem Sk.same (h : Sk k w A xs) (hb : ∀ b o, A = some ⟨b, o, none⟩ → b < w.heap.size → w'.heap[b]? = w.heap[b]?) : Sk k w' A xs := by
  intro j hj
  obtain ⟨b, o, e, hc⟩ := h j hj
  refine ⟨b, o, e, ?_⟩
  rw [World.cell?_of_block (a := ⟨b, o + j, none⟩) (hb b o e (block_lt hc))]
  exact hc
theorem Sk.below (h : Sk k w A xs) (hb : Below w.heap.size w w') : Sk k w' A xs := h.same fun b _ _ hlt => hb.block b hlt
theorem Sk.grown {r : Option Nat} (h : Sk k w A xs) (hg : w.grownBy w' r) (hr : ∀ b o, A = some ⟨b, o, none⟩ → some b ≠ r) : Sk k w' A xs := h.same fun b o e hlt => hg.block b hlt (hr b o e)
theorem Sk.nil (k : IntKind) (w : World) (A : Option Addr) : Sk k w A [] := fun j hj => absurd hj (Nat.not_lt_zero j)
theorem Sk.drewN (h : Sk k w A xs) (n : Nat) : Sk k (w.drewN n) A xs := h
theorem sk_here {b o : Nat} (h : Sk k w (some ⟨b, o, none⟩) xs) {j : Nat} (hj : j < xs.length) : w.cell? ⟨b, o + j, none⟩ = some (.int k (gd xs j)) := by
  obtain ⟨b', o', e, hc⟩ := h j hj
  injection e with e
  injection e with e1 e2
  subst e1 e2
  exact hc
theorem gd_cons (p : Int) (ps : List Int) (j : Nat) : gd (p :: ps) (j + 1) = gd ps j := by simp [gd]
theorem gd_zero (p : Int) (ps : List Int) : gd (p :: ps) 0 = p := rfl
theorem gd_take {xs : List Int} {j m : Nat} (h : j < m) : gd (xs.take m) j = gd xs j := by simp [gd, List.getD_eq_getElem?_getD, List.getElem?_take, h]
theorem gd_drop (xs : List Int) (j m : Nat) : gd (xs.drop m) j = gd xs (m + j) := by simp [gd, List.getD_eq_getElem?_getD, List.getElem?_drop]
theorem Sk.drop (h : Sk k w A xs) {m C : Nat} (hC : xs.length ≤ C) : Sk k w (if C = m then A else A.map fun x => x.add m) (xs.drop m) := by
  intro j hj
  rw [List.length_drop] at hj
  obtain ⟨b, o, rfl, hc⟩ := h (m + j) (by omega)
  rw [if_neg (by omega)]
  refine ⟨b, o + m, ?_, ?_⟩
  · simp [Addr.add]
  · rw [gd_drop, Nat.add_assoc]; exact hc
theorem Sk.take (h : Sk k w A xs) (m : Nat) : Sk k w A (xs.take m) := by
  intro j hj
  rw [List.length_take] at hj
  obtain ⟨b, o, rfl, hc⟩ := h j (by omega)
  exact ⟨b, o, rfl, by rw [gd_take (by omega)]; exact hc⟩
/-- The cells behind the address. -/
theorem Sk.cells {ad : Addr} (h : Sk k w (some ad) xs) : ∀ j u, (xs.map (Value.int k))[j]? = some u → w.cell? (ad.add j) = some u := by
  intro j u hu
  rw [List.getElem?_map] at hu
  by_cases hj : j < xs.length
  · obtain ⟨b, o, e, hc⟩ := h j hj
    injection e with e
    subst e
    rw [List.getElem?_eq_getElem hj] at hu
    simp at hu
    subst hu
    rw [gd_at hj] at hc
    rw [show (⟨b, o, none⟩ : Addr).add j = ⟨b, o + j, none⟩ by unfold Addr.add; split <;> simp_all]
    exact hc
  · rw [List.getElem?_eq_none (by omega)] at hu
    cases hu
theorem ones_k (k : IntKind) (xs : List Int) : ∀ u ∈ xs.map (Value.int k), u.oneCell' = true := by
  intro u hu
  obtain ⟨x, _, rfl⟩ := List.mem_map.1 hu
  rfl
end

section
variable {k : IntKind} {w w' wr w1 : World} {base B : Nat} {e : TypeId} {v : Value} {n : Nat} {xs : List Int}
theorem form_own {vs : List Value} (h : w.ownsRow base e 1 v n vs) : ∃ A C, v = .slice A n C ∧ n ≤ C ∧ C ≤ maxLen ∧ ∀ j u, vs[j]? = some u → ∃ g, A = some ⟨g, 0, none⟩ ∧ base ≤ g ∧ w.cell? ⟨g, j, none⟩ = some u := by
  rcases h.2 with ⟨rfl, rfl⟩ | ⟨g, cap, cur, rfl, hb, hg, hn, hm, hs, ht⟩
  · have hx : vs = [] := List.eq_nil_of_length_eq_zero (by simpa using h.1)
    subst hx
    exact ⟨none, 0, rfl, Nat.le_refl _, Nat.zero_le _, fun j u hu => by simp at hu⟩
  · refine ⟨some ⟨g, 0, none⟩, cap, rfl, hn, hm, fun j u hu => ⟨g, rfl, hb, ?_⟩⟩
    have hj : j < n * 1 := by
      rw [← h.1]
      exact (List.getElem?_eq_some_iff.1 hu).1
    have h2 : w.ownsRow base e 1 (.slice (some ⟨g, 0, none⟩) n cap) n vs := ⟨h.1, .inr ⟨g, cap, cur, rfl, hb, hg, hn, hm, hs, ht⟩⟩
    rw [World.ownsRow.cellAt h2 j hj]
    exact hu
/-- .. and lies in no elder block. -/
def SkF (base : Nat) (k : IntKind) (w : World) (A : Option Addr) (xs : List Int) : Prop := Sk k w A xs ∧ ∀ ad, A = some ad → base ≤ ad.block
theorem fresh_own {vs : List Value} {A : Option Addr} {C : Nat} (h : w.ownsRow base e 1 (.slice A n C) n vs) : ∀ ad, A = some ad → base ≤ ad.block := by
  intro ad ha
  rcases h.2 with ⟨hv, _⟩ | ⟨g, cap, cur, hv, hb, _⟩
  · injection hv with hv
    rw [hv] at ha; cases ha
  · injection hv with hv
    rw [hv] at ha; injection ha with ha
    subst ha
    exact hb
theorem own_sk (h : w.ownsRow base e 1 v n (xs.map (Value.int k))) : ∃ A C, v = .slice A xs.length C ∧ xs.length ≤ C ∧ C ≤ maxLen ∧ SkF base k w A xs := by
  have hn : n = xs.length := by have := h.1; simp at this; omega
  subst hn
  obtain ⟨A, C, hv, h1, h2, hc⟩ := form_own h
  refine ⟨A, C, hv, h1, h2, fun j hj => ?_, fresh_own (hv ▸ h)⟩
  obtain ⟨g, ha, _, hcell⟩ := hc j (.int k (gd xs j)) (by simp [gd_at hj, hj])
  exact ⟨g, 0, ha, by rw [Nat.zero_add]; exact hcell⟩
theorem own_below {vs : List Value} {size : Nat} (h : w.ownsRow base e size v n vs) (hb : Below w.heap.size w w') : w'.ownsRow base e size v n vs := by
  refine ⟨h.1, ?_⟩
  rcases h.2 with h0 | ⟨g, cap, cur, hv, hbg, hg, h3⟩
  · exact .inl h0
  · refine .inr ⟨g, cap, cur, hv, hbg, ?_, h3⟩
    have : g < w.heap.size := by
      rcases Nat.lt_or_ge g w.heap.size with h' | h'
      · exact h'
      · rw [Array.getElem?_eq_none h'] at hg; cases hg
    rw [hb.block g this]
    exact hg
theorem own_new (w : World) (cs : Array Value) (e : TypeId) (hb : base ≤ w.heap.size) (hm : cs.size ≤ maxLen) : (w.alloc (.cells cs e)).ownsRow base e 1 (.slice (some ⟨w.heap.size, 0, none⟩) cs.size cs.size) cs.size cs.toList :=
  ⟨by simp, .inr ⟨w.heap.size, cs.size, cs, rfl, hb, heap_alloc_new w _, Nat.le_refl _, hm, by simp, List.take_of_length_le (by simp)⟩⟩
theorem own_rebase {vs : List Value} {size base' : Nat} (h : w.ownsRow base e size v n vs) (hb : base' ≤ base) : w.ownsRow base' e size v n vs := by
  refine ⟨h.1, ?_⟩
  rcases h.2 with h0 | ⟨g, cap, cur, hv, hbg, h3⟩
  · exact .inl h0
  · exact .inr ⟨g, cap, cur, hv, Nat.le_trans hb hbg, h3⟩
/-- What an append leaves below. -/
theorem app_below {vs : List Value} {size : Nat} (hb : Below B w wr) (hB : B ≤ wr.heap.size) (hown : wr.ownsRow base e size v n vs) (hbase : B ≤ base) (hg : wr.grownBy w1 v.ownBlock) : Below B w w1 :=
  hb.grown hg hB fun j hj => by have := (hown.lt j hj).1; omega
theorem new_k (wr : World) (x : Int) (t : TypeId) (j : Nat) (u : Value) (h : [Value.int k x][j]? = some u) : (wr.alloc (.cells #[.int k x] t)).cell? ((⟨wr.heap.size, 0, none⟩ : Addr).add j) = some u := by
  match j, h with
  | 0, h => simp at h; subst h; simp [Addr.add, go_sem]
theorem one_k {x : Int} : ∀ u ∈ [Value.int k x], u.oneCell' = true := by
  intro u hu
  simp at hu
  subst hu
  rfl
theorem snoc_k (xs : List Int) (x : Int) : xs.map (Value.int k) ++ [.int k x] = (xs ++ [x]).map (Value.int k) := by simp
theorem app_k (xs ys : List Int) : xs.map (Value.int k) ++ ys.map (Value.int k) = (xs ++ ys).map (Value.int k) := by simp
theorem take_k {xs : List Int} {j : Nat} (h : j < xs.length) : xs.take (j + 1) = xs.take j ++ [gd xs j] := by rw [List.take_succ_eq_append_getElem h, gd_at h]
end
/-- A list that a call has made. -/
def Mkk (k : IntKind) (w : World) (xs : List Int) (e : Ending) (w' : World) : Prop := ∃ A C, e = .returned (.slice A xs.length C) ∧ xs.length ≤ C ∧ C ≤ maxLen ∧ SkF w.heap.size k w' A xs ∧ Below w.heap.size w w'

section
variable {P : Program} (w : World)
/-- An append of the numbers that a slice reads as, nil among them. -/
theorem wpList_append_sk {ops : Array Oper} {rest : List Oper} {o : Oper} {a : Act} {Q : Exit → Act → World → Prop} (hgd : o.guard = none) (s x : Operand) (t : TypeId)
    (ho : o.op = .call { callee := .builtin .append, args := #[s, x], argTypes := #[t, t] })
    (base : Nat) (e : TypeId) (i : TypeInfo) (k : IntKind) (bytes : Nat) (ht : P.underlying t = some (.slice e)) (hi : P.info? e = some i) (hz : i.zero = some (.int k 0))
    (hsize : i.size = 1) (hby : i.bytes = bytes)
    (v : Value) (n : Nat) (xs : List Value) (hs : a.eval s = v) (hown : w.ownsRow base e 1 v n xs)
    (A : Option Addr) (c : Nat) (news : List Int) (hx : a.eval x = .slice A news.length c) (hr : Sk k w A news)
    (h63 : n + news.length ≤ maxLen) (hbytes : (n + news.length) * bytes ≤ 140737488355328) (hbase : base ≤ w.heap.size)
    (h : ∀ v' w', w'.ownsRow base e 1 v' (n + news.length) (xs ++ news.map (Value.int k)) → w.grownBy w' v.ownBlock → (v'.ownBlock = v.ownBlock ∨ v'.ownBlock = some w.heap.size) → wpList P ops Q rest (a.put o.dst v') w') : wpList P ops Q (o :: rest) a w := by
  refine wpList_plain hgd fun K hK => ?_
  have hrun : ∃ v' w', (Builtin.append_ #[t, t] o.type #[v, .slice A news.length c]).run P w = .ok v' w' ∧ w'.ownsRow base e 1 v' (n + news.length) (xs ++ news.map (Value.int k)) ∧ w.grownBy w' v.ownBlock ∧ (v'.ownBlock = v.ownBlock ∨ v'.ownBlock = some w.heap.size) := by
    cases A with
    | none =>
      have hn : news = [] := by
        cases news with
        | nil => rfl
        | cons p r =>
          obtain ⟨_, _, e0, _⟩ := hr 0 (by simp)
          cases e0
      subst hn
      refine ⟨v, w, ?_, by simpa using hown, World.grownBy.refl w _, .inl rfl⟩
      rcases hown.2 with ⟨rfl, rfl⟩ | ⟨g, cap, cur, rfl, _, _, hnc, _⟩
      · simp [Builtin.append_, run_underlying ht, sizeOf, typeInfo, hi, Builtin.lenOf, Builtin.firstCells]
      · simp [Builtin.append_, run_underlying ht, sizeOf, typeInfo, hi, Builtin.lenOf, Builtin.firstCells, hnc, storeCells]
    | some ad =>
      obtain ⟨v', w', h1, h2, h3, _, h5⟩ := run_append_own_at (P := P) w base t o.type e i (.int k 0) 1 bytes ht hi hz hsize hby rfl (by omega) v n xs hown ad news.length c (news.map (Value.int k)) (by simp) hr.cells (ones_k k news) h63 hbytes hbase
      exact ⟨v', w', h1, h2, h3, h5⟩
  obtain ⟨v', w', hr', h2, h3, h4⟩ := hrun
  unfold Oper.wp execOp
  simp only [ho, resolve, invoke, builtin, Sem.run_bind, Sem.run_pure, Result.andThen_ok, List.map_toArray, List.map_cons, List.map_nil, hs, hx, hr']
  exact hK _ _ (h v' w' h2 h3 h4)
end
end Go.Proofs.Ytjjimbaogpmbmaa
