/-
  SunRepeats.
-/
import Derived.Test.YtjjimbaogpmbmaaZSunZN
import Derived.Test.YtjjimbaogpmbmaaRows
import Derived.ProofKit
import Derived.OpenShut
import Derived.Deep.DeepHandedRow
import Derived.Deep.DeepWitnessRowRef
import Derived.MakeChecks
import Derived.Deep.DeepCutAuto
import Derived.Deep.QuietTactic
import Derived.BigQuiet
namespace Go.Proofs.Ytjjimbaogpmbmaa.LawRep
open Go.RowKit Go.Sort
open Go.RowKit (Below)
set_option linter.unusedVariables false
set_option linter.unusedSimpArgs false
attribute [local go_sem] Oper.semAt_some

/-- The list behind k rounds: with the further element q at its place c, or not yet. -/
def ins (T : List Q4) (q : Q4) (c k : Nat) (g : Bool) : List Q4 := if g then T.take c ++ q :: (T.take k).drop c else T.take k
theorem take_snoc4 {T : List Q4} {k : Nat} (h : k < T.length) : T.take (k + 1) = T.take k ++ [gd4 T k] := by rw [List.take_succ_eq_append_getElem h, gd4_at h]
theorem ins_f {T : List Q4} {q : Q4} {c k : Nat} (h : k < T.length) : ins T q c k false ++ [gd4 T k] = ins T q c (k + 1) false := by
  unfold ins; rw [take_snoc4 h]; rfl
theorem ins_t {T : List Q4} {q : Q4} {c k : Nat} (h : k < T.length) (hc : c ≤ k) : ins T q c k true ++ [gd4 T k] = ins T q c (k + 1) true := by
  unfold ins
  rw [take_snoc4 h, List.drop_append_of_le_length (by rw [List.length_take]; omega)]
  simp
theorem ins_q {T : List Q4} {q : Q4} {k : Nat} : ins T q k k false ++ [q] = ins T q k k true := by
  unfold ins
  have : (T.take k).drop k = [] := List.drop_eq_nil_of_le (by rw [List.length_take]; omega)
  simp [this]
theorem ins_len {T : List Q4} {q : Q4} {c k : Nat} {g : Bool} (hk : k ≤ T.length) (hg : g = true → c ≤ k) : (ins T q c k g).length = k + (if g then 1 else 0) := by
  unfold ins
  cases g
  · simp; omega
  · have := hg rfl
    simp; omega
theorem gd4_take {T : List Q4} {k j : Nat} (h : j < k) : gd4 (T.take k) j = gd4 T j := by
  unfold gd4; rw [List.getD_eq_getElem?_getD, List.getD_eq_getElem?_getD, List.getElem?_take, if_pos h]
/-- The whole list. -/
def insq (T : List Q4) (q : Q4) (c : Nat) : List Q4 := T.take c ++ q :: T.drop c
section
variable {T : List Q4} {q : Q4} {c : Nat} (hc : c ≤ T.length)
include hc
theorem insq_len : (insq T q c).length = T.length + 1 := by unfold insq; simp; omega
theorem insq_l {j : Nat} (h : j < c) : gd4 (insq T q c) j = gd4 T j := by
  unfold insq; rw [gd4_app_l (by rw [List.length_take]; omega), gd4_take h]
theorem insq_c : gd4 (insq T q c) c = q := by
  unfold insq; rw [gd4_app_r (by rw [List.length_take]; omega), List.length_take, Nat.min_eq_left hc, Nat.sub_self]; rfl
theorem insq_r {j : Nat} (h : c < j) : gd4 (insq T q c) j = gd4 T (j - 1) := by
  unfold insq; rw [gd4_app_r (by rw [List.length_take]; omega), List.length_take, Nat.min_eq_left hc]
  obtain ⟨i, rfl⟩ : ∃ i, j = c + 1 + i := ⟨j - c - 1, by omega⟩
  rw [show c + 1 + i - c = i + 1 by omega, show c + 1 + i - 1 = c + i by omega]
  unfold gd4
  rw [List.getD_eq_getElem?_getD, List.getD_eq_getElem?_getD, List.getElem?_cons_succ, List.getElem?_drop]
theorem sok_insq (hs : Sok T) (hn : T.length < 100) {f x y z : Int} (hq : q = ⟨f, x, y, z⟩) (h0 : 0 ≤ f ∧ f ≤ 1439) (hd : dr x y z = true) (h1 : ∀ j, j < c → (gd4 T j).a < f) (h2 : ∀ j, c ≤ j → j < T.length → f < (gd4 T j).a) : Sok (insq T q c) := by
  have hl := insq_len (q := q) hc
  have each : ∀ {R : Q4 → Prop}, R q → (∀ j, j < T.length → R (gd4 T j)) → ∀ k, k < (insq T q c).length → R (gd4 (insq T q c) k) := by
    intro R hq hR k hk
    rw [hl] at hk
    rcases Nat.lt_trichotomy k c with e | rfl | e
    · rw [insq_l hc e]; exact hR k (by omega)
    · rw [insq_c hc]; exact hq
    · rw [insq_r hc e]; exact hR _ (by omega)
  have n1 := hs.n1
  subst hq
  refine ⟨by omega, by omega, each (R := fun q => 0 ≤ q.a) h0.1 hs.lo, each (R := fun q => q.a ≤ 1439) h0.2 hs.hi, each (R := fun q => dr q.b q.c q.d = true) hd hs.di, fun k hk => ?_⟩
  rw [hl] at hk
  rcases Nat.lt_trichotomy (k + 1) c with e | e | e
  · rw [insq_l hc e, insq_l hc (by omega)]; exact hs.up k (by omega)
  · rw [insq_l hc (j := k) (by omega), e, insq_c hc]; exact h1 k (by omega)
  · by_cases e2 : k = c
    · subst e2
      rw [insq_c hc, insq_r hc (Nat.lt_succ_self k)]; exact h2 k (Nat.le_refl _) (by omega)
    · rw [insq_r hc (j := k) (by omega), insq_r hc e]
      have := hs.up (k - 1) (by omega)
      rw [show k - 1 + 1 = k by omega] at this
      rw [show k + 1 - 1 = k by omega]
      exact this
theorem dir_insq (hs : Sok T) {f x y z : Int} (hq : q = ⟨f, x, y, z⟩) (h0 : 0 ≤ f ∧ f ≤ 1439) (hd : Dir T f x y z) (h1 : ∀ j, j < c → (gd4 T j).a < f) (h2 : ∀ j, c ≤ j → j < T.length → f < (gd4 T j).a) {m a b d : Int} (h : Dir T m a b d) : Dir (insq T q c) m a b d := by
  have hl := insq_len (q := q) hc
  have e0 : f % 1440 = f := Int.emod_eq_of_lt h0.1 (by omega)
  obtain ⟨i, ⟨hi, hx⟩, rfl, rfl, rfl⟩ := h
  obtain ⟨e, ⟨he, hy⟩, ex, ey, ez⟩ := hd
  rw [e0] at hy
  subst hq
  unfold Dir
  generalize m % 1440 = u at *
  by_cases hu : u < f
  · rcases hx with ⟨k1, k2⟩ | ⟨k1, k2⟩
    · have hic : i < c := by
        rcases Nat.lt_or_ge i c with g | g
        · exact g
        · have := h2 i g hi; omega
      refine ⟨i, ⟨by omega, Or.inl ⟨by rw [insq_l hc hic]; exact k1, fun j g1 g2 => ?_⟩⟩, by rw [insq_l hc hic], by rw [insq_l hc hic], by rw [insq_l hc hic]⟩
      rcases Nat.lt_trichotomy j c with g | rfl | g
      · rw [insq_l hc g]; exact k2 j g1 (by omega)
      · rw [insq_c hc]; exact hu
      · rw [insq_r hc g]; exact k2 _ (by omega) (by omega)
    · have no : ∀ j, j < (insq T ⟨f, x, y, z⟩ c).length → u < (gd4 (insq T ⟨f, x, y, z⟩ c) j).a := fun j hj => by
        rw [hl] at hj
        rcases Nat.lt_trichotomy j c with g | rfl | g
        · rw [insq_l hc g]; exact k2 j (by omega)
        · rw [insq_c hc]; exact hu
        · rw [insq_r hc g]; exact k2 _ (by omega)
      refine ⟨T.length, ⟨by omega, Or.inr ⟨by omega, no⟩⟩, ?_⟩
      by_cases hcl : c = T.length
      · have hie : i = e := by
          rcases hy with ⟨g1, g2⟩ | ⟨g1, g2⟩
          · rcases Nat.lt_or_ge e i with g | g
            · have := g2 i g hi; have := h1 i (by omega); omega
            · omega
          · have := g2 e he; have := h1 e (by omega); omega
        rw [← hcl, insq_c hc, hie]
        exact ⟨ex.symm, ey.symm, ez.symm⟩
      · rw [insq_r hc (by omega), show T.length - 1 = i by omega]
        exact ⟨rfl, rfl, rfl⟩
  · by_cases hic : c ≤ i ∧ (gd4 T i).a ≤ u
    · rcases hx with ⟨k1, k2⟩ | ⟨k1, k2⟩
      · refine ⟨i + 1, ⟨by omega, Or.inl ⟨by rw [insq_r hc (by omega)]; exact k1, fun j g1 g2 => ?_⟩⟩, by rw [insq_r hc (by omega)]; rfl, by rw [insq_r hc (by omega)]; rfl, by rw [insq_r hc (by omega)]; rfl⟩
        rw [insq_r hc (by omega)]; exact k2 _ (by omega) (by omega)
      · have := k2 i hi; omega
    · have hgt : ∀ j, c ≤ j → j < T.length → u < (gd4 T j).a := fun j g1 g2 => by
        rcases hx with ⟨k1, k2⟩ | ⟨k1, k2⟩
        · exact k2 j (by omega) g2
        · exact k2 j g2
      refine ⟨c, ⟨by omega, Or.inl ⟨by rw [insq_c hc]; show f ≤ u; omega, fun j g1 g2 => by rw [insq_r hc g1]; exact hgt _ (by omega) (by omega)⟩⟩, ?_⟩
      rw [insq_c hc]
      have hie : i = e := by
        rcases hx with ⟨k1, k2⟩ | ⟨k1, k2⟩ <;> rcases hy with ⟨g1, g2⟩ | ⟨g1, g2⟩
        · have a1 : i < c := by omega
          rcases Nat.lt_trichotomy i e with g | g | g
          · rcases Nat.lt_or_ge e c with k | k
            · have := k2 e g he; have := h1 e k; omega
            · have := h2 e k he; omega
          · exact g
          · have := g2 i g hi; have := h1 i a1; omega
        · have := g2 i hi; have := h1 i (by omega); omega
        · have := k2 e he; omega
        · omega
      rw [hie]
      exact ⟨ex.symm, ey.symm, ez.symm⟩
end
theorem cnt_ex (T : List Q4) (hs : Sok T) (f : Int) : ∃ c, c ≤ T.length ∧ (∀ j, j < c → (gd4 T j).a < f) ∧ ∀ j, c ≤ j → j < T.length → f ≤ (gd4 T j).a := by
  rcases dx_upto T (f - 1) T.length (Nat.le_refl _) with ⟨i, h1, h2, h3⟩ | h1
  · exact ⟨i + 1, h1, fun j hj => by have := hs.le (i := j) (j := i) (by omega) h1; omega, fun j k1 k2 => by have := h3 j (by omega) k2; omega⟩
  · exact ⟨0, Nat.zero_le _, fun j hj => absurd hj (Nat.not_lt_zero j), fun j _ k2 => by have := h1 j k2; omega⟩
theorem at_ex2 (T : List Q4) (m : Int) : ∃ x y z u E, AtR T m x y z u E := by
  classical
  by_cases h : Mok T m
  · obtain ⟨x, y, z, hd⟩ := dir_ex h.1.n1 m
    exact ⟨x, y, z, _, 0, Or.inl ⟨h, rfl, hd, rfl⟩⟩
  · exact ⟨0, 0, 0, false, 1, Or.inr ⟨h, rfl, rfl, rfl, rfl, rfl⟩⟩
theorem atr_insq {T : List Q4} {q : Q4} {c : Nat} (hc : c ≤ T.length) (hs : Sok T) (hn : T.length < 100) {f x y z : Int} (hq : q = ⟨f, x, y, z⟩) (h0 : 0 ≤ f ∧ f ≤ 1439) (hd : Dir T f x y z) (h1 : ∀ j, j < c → (gd4 T j).a < f) (h2 : ∀ j, c ≤ j → j < T.length → f < (gd4 T j).a) {m a b d : Int} {u : Bool} {E : Int} (h : AtR T m a b d u E) : AtR (insq T q c) m a b d u E := by
  have hs2 := sok_insq hc hs hn hq h0 (dir_dr hs hd) h1 h2
  rcases h with ⟨⟨_, a1, a2⟩, h3, h4, h5⟩ | ⟨hm, h3⟩
  · exact Or.inl ⟨⟨hs2, a1, a2⟩, h3, dir_insq hc hs hq h0 hd h1 h2 h4, h5⟩
  · exact Or.inr ⟨fun h => hm ⟨hs, h.2⟩, h3⟩
set_option maxRecDepth 100000 in
set_option maxHeartbeats 4000000 in
theorem rep_0 (tA : Option Addr) (tC : Nat) (t : List Q4) (f m : Int) (jf : I64 f) (im : I64 m) (h4 : t.length ≤ 9223372036854775807) (hf : ¬ FewS t.length []) (w : World) (ht : S4 w tA t) :
    Calls Try.prog 7 #[.slice tA t.length tC, .int .i64 f, .int .i64 m] w fun e_ w' => e_ = .returned (.bool true) ∧ Below w.heap.size w w' := by
  have HF := Lib.hid (fun W => few10_is tA tC t none 0 [] h4 (by simp) (fun k hk => absurd hk (Nat.not_lt_zero k)) false (by simp [hf]) W (BdS.nil W none))
  simp only [List.length_nil] at HF
  clear hf
  have HT := Lib.hid ht
  clear ht
  have HB := Lib.hid (Below.refl w.heap.size w)
  go_enter Try.func7, Try.ntmps7
  go_wp2_with fail
  with_reducible refine (head10_any _).mono ?_
  rintro e_ w1 ⟨rfl, hb⟩
  replace HB := Lib.hid (on_below HB.out hb)
  replace HT := Lib.hid (HT.out.below hb)
  clear hb
  go_wp2_with fail
  with_reducible refine (HF.out _).mono ?_
  rintro e_ w2 ⟨rfl, hb⟩
  replace HB := Lib.hid (on_below HB.out hb)
  replace HT := Lib.hid (HT.out.below hb)
  clear hb
  go_wp2_with fail
  go_ret
  exact ⟨rfl, HB.out⟩
set_option maxRecDepth 100000 in
set_option maxHeartbeats 4000000 in
theorem rep_1 (tA : Option Addr) (tC : Nat) (t : List Q4) (f m : Int) (jf : I64 f) (im : I64 m) (h4 : t.length ≤ 9223372036854775807) (hf : FewS t.length []) (hs : ¬ Sok t) (w : World) (ht : S4 w tA t) :
    Calls Try.prog 7 #[.slice tA t.length tC, .int .i64 f, .int .i64 m] w fun e_ w' => e_ = .returned (.bool true) ∧ Below w.heap.size w w' := by
  have HF := Lib.hid (fun W => few10_is tA tC t none 0 [] h4 (by simp) (fun k hk => absurd hk (Nat.not_lt_zero k)) true (by simp [hf]) W (BdS.nil W none))
  simp only [List.length_nil] at HF
  have HV := Lib.hid (fun W (h : S4 W tA t) => svalid_is tA tC t h4 false (by simp [hs]) W h)
  clear hf hs
  have HT := Lib.hid ht
  clear ht
  have HB := Lib.hid (Below.refl w.heap.size w)
  go_enter Try.func7, Try.ntmps7
  go_wp2_with fail
  with_reducible refine (head10_any _).mono ?_
  rintro e_ w1 ⟨rfl, hb⟩
  replace HB := Lib.hid (on_below HB.out hb)
  replace HT := Lib.hid (HT.out.below hb)
  clear hb
  go_wp2_with fail
  with_reducible refine (HF.out _).mono ?_
  rintro e_ w2 ⟨rfl, hb⟩
  replace HB := Lib.hid (on_below HB.out hb)
  replace HT := Lib.hid (HT.out.below hb)
  clear hb
  go_wp2_with fail
  with_reducible refine (HV.out _ HT.out).mono ?_
  rintro e_ w3 ⟨rfl, hb⟩
  replace HB := Lib.hid (on_below HB.out hb)
  replace HT := Lib.hid (HT.out.below hb)
  clear hb
  go_wp2_with fail
  go_ret
  exact ⟨rfl, HB.out⟩
set_option maxRecDepth 100000 in
set_option maxHeartbeats 4000000 in
theorem rep_2 (tA : Option Addr) (tC : Nat) (t : List Q4) (f m : Int) (jf : I64 f) (im : I64 m) (h4 : t.length ≤ 9223372036854775807) (hf : FewS t.length []) (hs : Sok t) (hm : 100 ≤ t.length) (w : World) (ht : S4 w tA t) :
    Calls Try.prog 7 #[.slice tA t.length tC, .int .i64 f, .int .i64 m] w fun e_ w' => e_ = .returned (.bool true) ∧ Below w.heap.size w w' := by
  have HF := Lib.hid (fun W => few10_is tA tC t none 0 [] h4 (by simp) (fun k hk => absurd hk (Nat.not_lt_zero k)) true (by simp [hf]) W (BdS.nil W none))
  simp only [List.length_nil] at HF
  have HV := Lib.hid (fun W (h : S4 W tA t) => svalid_is tA tC t h4 true (by simp [hs]) W h)
  clear hf hs
  have HT := Lib.hid ht
  clear ht
  have HB := Lib.hid (Below.refl w.heap.size w)
  go_enter Try.func7, Try.ntmps7
  go_wp2_with fail
  with_reducible refine (head10_any _).mono ?_
  rintro e_ w1 ⟨rfl, hb⟩
  replace HB := Lib.hid (on_below HB.out hb)
  replace HT := Lib.hid (HT.out.below hb)
  clear hb
  go_wp2_with fail
  with_reducible refine (HF.out _).mono ?_
  rintro e_ w2 ⟨rfl, hb⟩
  replace HB := Lib.hid (on_below HB.out hb)
  replace HT := Lib.hid (HT.out.below hb)
  clear hb
  go_wp2_with fail
  with_reducible refine (HV.out _ HT.out).mono ?_
  rintro e_ w3 ⟨rfl, hb⟩
  replace HB := Lib.hid (on_below HB.out hb)
  replace HT := Lib.hid (HT.out.below hb)
  clear hb
  go_wp2_with fail
  go_ret
  exact ⟨rfl, HB.out⟩
set_option maxRecDepth 100000 in
set_option maxHeartbeats 4000000 in
theorem rep_3 (tA : Option Addr) (tC : Nat) (t : List Q4) (f m : Int) (jf : I64 f) (im : I64 m) (h4 : t.length ≤ 9223372036854775807) (hf : FewS t.length []) (hs : Sok t) (hm : t.length < 100) (h0 : f < 0) (w : World) (ht : S4 w tA t) :
    Calls Try.prog 7 #[.slice tA t.length tC, .int .i64 f, .int .i64 m] w fun e_ w' => e_ = .returned (.bool true) ∧ Below w.heap.size w w' := by
  have HF := Lib.hid (fun W => few10_is tA tC t none 0 [] h4 (by simp) (fun k hk => absurd hk (Nat.not_lt_zero k)) true (by simp [hf]) W (BdS.nil W none))
  simp only [List.length_nil] at HF
  have HV := Lib.hid (fun W (h : S4 W tA t) => svalid_is tA tC t h4 true (by simp [hs]) W h)
  clear hf hs
  have HT := Lib.hid ht
  clear ht
  have HB := Lib.hid (Below.refl w.heap.size w)
  go_enter Try.func7, Try.ntmps7
  go_wp2_with fail
  with_reducible refine (head10_any _).mono ?_
  rintro e_ w1 ⟨rfl, hb⟩
  replace HB := Lib.hid (on_below HB.out hb)
  replace HT := Lib.hid (HT.out.below hb)
  clear hb
  go_wp2_with fail
  with_reducible refine (HF.out _).mono ?_
  rintro e_ w2 ⟨rfl, hb⟩
  replace HB := Lib.hid (on_below HB.out hb)
  replace HT := Lib.hid (HT.out.below hb)
  clear hb
  go_wp2_with fail
  with_reducible refine (HV.out _ HT.out).mono ?_
  rintro e_ w3 ⟨rfl, hb⟩
  replace HB := Lib.hid (on_below HB.out hb)
  replace HT := Lib.hid (HT.out.below hb)
  clear hb
  go_wp2_with fail
  go_ret
  exact ⟨rfl, HB.out⟩
set_option maxRecDepth 100000 in
set_option maxHeartbeats 4000000 in
theorem rep_4 (tA : Option Addr) (tC : Nat) (t : List Q4) (f m : Int) (jf : I64 f) (im : I64 m) (h4 : t.length ≤ 9223372036854775807) (hf : FewS t.length []) (hs : Sok t) (hm : t.length < 100) (h0 : 1439 < f) (w : World) (ht : S4 w tA t) :
    Calls Try.prog 7 #[.slice tA t.length tC, .int .i64 f, .int .i64 m] w fun e_ w' => e_ = .returned (.bool true) ∧ Below w.heap.size w w' := by
  have HF := Lib.hid (fun W => few10_is tA tC t none 0 [] h4 (by simp) (fun k hk => absurd hk (Nat.not_lt_zero k)) true (by simp [hf]) W (BdS.nil W none))
  simp only [List.length_nil] at HF
  have HV := Lib.hid (fun W (h : S4 W tA t) => svalid_is tA tC t h4 true (by simp [hs]) W h)
  clear hf hs
  have HT := Lib.hid ht
  clear ht
  have HB := Lib.hid (Below.refl w.heap.size w)
  go_enter Try.func7, Try.ntmps7
  go_wp2_with fail
  with_reducible refine (head10_any _).mono ?_
  rintro e_ w1 ⟨rfl, hb⟩
  replace HB := Lib.hid (on_below HB.out hb)
  replace HT := Lib.hid (HT.out.below hb)
  clear hb
  go_wp2_with fail
  with_reducible refine (HF.out _).mono ?_
  rintro e_ w2 ⟨rfl, hb⟩
  replace HB := Lib.hid (on_below HB.out hb)
  replace HT := Lib.hid (HT.out.below hb)
  clear hb
  go_wp2_with fail
  with_reducible refine (HV.out _ HT.out).mono ?_
  rintro e_ w3 ⟨rfl, hb⟩
  replace HB := Lib.hid (on_below HB.out hb)
  replace HT := Lib.hid (HT.out.below hb)
  clear hb
  go_wp2_with fail
  go_ret
  exact ⟨rfl, HB.out⟩
theorem app_row {u : World} {B : Nat} {e : TypeId} {v : Value} {L M : List Q4} {x : Q4} (h : u.ownsRow B e 4 v (L.length + 1) (flt q4c L ++ q4c x)) (hM : L ++ [x] = M) : u.ownsRow B e 4 v M.length (flt q4c M) := by
  subst hM
  rw [List.length_append, ← flt_snoc]
  exact h
theorem app_bel {V wr u : World} {o : Obj} {e : TypeId} {size n : Nat} {v : Value} {xs : List Value} (hb : Below V.heap.size V wr) (own : wr.ownsRow V.heap.size e size v n xs) (gr : (wr.alloc o).grownBy u v.ownBlock) : Below V.heap.size V u :=
  app_below (on_below hb (below_new wr o)) (Nat.le_trans hb.size (below_new wr o).size) (own.alloc o) (Nat.le_refl _) gr
theorem src_new (w : World) (cs : Array Value) (t : TypeId) : Src (w.alloc (.cells cs t)) (some ⟨w.heap.size, 0, none⟩) cs.toList := fun j u hu => ⟨_, rfl, World.news_of_block (World.alloc_heap_new w _) j u hu⟩
set_option maxRecDepth 100000 in
set_option maxHeartbeats 4000000 in
theorem rep_5 (tA : Option Addr) (tC : Nat) (t : List Q4) (f m : Int) (jf : I64 f) (im : I64 m) (h4 : t.length ≤ 9223372036854775807) (hf : FewS t.length []) (hs : Sok t) (hn : t.length < 100) (h0 : 0 ≤ f) (h9 : f ≤ 1439) (x y z : Int) (hd : Dir t f x y z) (c : Nat) (hc : c ≤ t.length ∧ (∀ j, j < c → (gd4 t j).a < f) ∧ ∀ j, c ≤ j → j < t.length → f ≤ (gd4 t j).a) (a_ b_ c_ : Int) (u_ : Bool) (E : Int) (ha : AtR t m a_ b_ c_ u_ E) (w : World) (ht : S4 w tA t) :
    Calls Try.prog 7 #[.slice tA t.length tC, .int .i64 f, .int .i64 m] w fun e_ w' => e_ = .returned (.bool true) ∧ Below w.heap.size w w' := by
  have HF := Lib.hid (fun W => few10_is tA tC t none 0 [] h4 (by simp) (fun k hk => absurd hk (Nat.not_lt_zero k)) true (by simp [hf]) W (BdS.nil W none))
  simp only [List.length_nil] at HF
  have HV := Lib.hid (fun W (h : S4 W tA t) => svalid_is tA tC t h4 true (by simp [hs]) W h)
  obtain ⟨u, hu⟩ : ∃ u, decide (0 < z) = u := ⟨_, rfl⟩
  have C1 := Lib.hid (fun W (h : S4 W tA t) => at_is tA tC t f h4 x y z u 0 (Or.inl ⟨⟨hs, h0, by omega⟩, rfl, hd, hu.symm⟩) W h)
  have C2 := Lib.hid (fun W (h : S4 W tA t) => at_is tA tC t m h4 a_ b_ c_ u_ E ha W h)
  have HC := Lib.hid hc
  have HS := Lib.hid hs
  have HD := Lib.hid hd
  have HAT := Lib.hid ha
  obtain ⟨i0, hi0, hz0, hz1, hz2⟩ := info_of (show (Try.prog.info? 32).map (fun i => (i.zero, i.size, i.bytes)) = some (some (.agg #[.int .i64 0, .int .i64 0, .int .i64 0, .int .i64 0]), 4, 32) by kernel_rfl)
  clear hf hs hd hu hc ha jf im h4
  have HT := Lib.hid ht
  clear ht
  have HB := Lib.hid (Below.refl w.heap.size w)
  go_enter Try.func7, Try.ntmps7
  go_wp2_with fail
  with_reducible refine (head10_any _).mono ?_
  rintro e_ w1 ⟨rfl, hb⟩
  replace HB := Lib.hid (on_below HB.out hb)
  replace HT := Lib.hid (HT.out.below hb)
  clear hb
  go_wp2_with fail
  with_reducible refine (HF.out _).mono ?_
  rintro e_ w2 ⟨rfl, hb⟩
  replace HB := Lib.hid (on_below HB.out hb)
  replace HT := Lib.hid (HT.out.below hb)
  clear hb
  go_wp2_with fail
  with_reducible refine (HV.out _ HT.out).mono ?_
  rintro e_ w3 ⟨rfl, hb⟩
  replace HB := Lib.hid (on_below HB.out hb)
  replace HT := Lib.hid (HT.out.below hb)
  clear hb
  go_wp2_with fail
  with_reducible refine (C1.out _ HT.out).mono ?_
  rintro e_ w4 ⟨rfl, hb⟩
  replace HB := Lib.hid (on_below HB.out hb)
  replace HT := Lib.hid (HT.out.below hb)
  clear hb
  go_wp2_with fail
  have d0 : World.cell? (w4.alloc (.cells #[.int .i64 x, .int .i64 y, .int .i64 z] 27)) ⟨w4.heap.size, 0, none⟩ = some (.int .i64 x) := by simp [go_sem]
  have d1 : World.cell? (w4.alloc (.cells #[.int .i64 x, .int .i64 y, .int .i64 z] 27)) ⟨w4.heap.size, 1, none⟩ = some (.int .i64 y) := by simp [go_sem]
  have d2 : World.cell? (w4.alloc (.cells #[.int .i64 x, .int .i64 y, .int .i64 z] 27)) ⟨w4.heap.size, 2, none⟩ = some (.int .i64 z) := by simp [go_sem]
  have ld : w4.heap.size < (w4.alloc (.cells #[.int .i64 x, .int .i64 y, .int .i64 z] 27)).heap.size := by simp
  have hb : Below w4.heap.size w4 (w4.alloc (.cells #[.int .i64 x, .int .i64 y, .int .i64 z] 27)) := below_new _ _
  generalize w4.alloc (.cells #[.int .i64 x, .int .i64 y, .int .i64 z] 27) = w5 at *
  replace HB := Lib.hid (on_below HB.out hb)
  replace HT := Lib.hid (HT.out.below hb)
  clear hb
  generalize w4.heap.size = gd at *
  go_wp2_with fail
  go_loopw [11, 12, 13] (fun v u i wr => ∃ (k : Nat) (g : Bool), k ≤ t.length ∧ i = .int .i64 k ∧ u = .bool g ∧ Hid ((g = true → c < k) ∧ (g = false → k ≤ c)) ∧ Hid (∀ j, j < k → (gd4 t j).a ≠ f) ∧ Hid (wr.ownsRow w5.heap.size 32 4 v (ins t ⟨f, x, y, z⟩ c k g).length (flt q4c (ins t ⟨f, x, y, z⟩ c k g))) ∧ Below w5.heap.size w5 wr) (fun _ _ i _ => t.length - (intOf i).toNat)
  case atStart => exact ⟨0, false, Nat.zero_le _, rfl, rfl, ⟨fun h => (Bool.noConfusion h), fun _ => Nat.zero_le _⟩, (fun j hj => absurd hj (Nat.not_lt_zero j)), World.ownsRow_nil _ _ _ _, Below.refl _ _⟩
  case round =>
    obtain ⟨k, g, hk, rfl, rfl, HK, HE, HO, hW⟩ := hrel
    have kb : (k : Int) ≤ 102 := by omega
    have w1_ : IntKind.i64.wrap ((k : Int) + 1) = (k : Int) + 1 := wrp1 ⟨by omega, by omega⟩
    have w2_ : wrap64 ((k : Int) + 1) = (k : Int) + 1 := wrp2 ⟨by omega, by omega⟩
    have HB0 := HB
    replace HB := Lib.hid (on_below HB.out hW)
    have xd0 := keepc hW d0
    have xd1 := keepc hW d1
    have xd2 := keepc hW d2
    by_cases hlt : k < t.length
    · obtain ⟨b0, o0, rfl, e0, e1, e2, e3⟩ := HT.out k hlt
      have hk1 : (k : Int) < t.length := Int.ofNat_lt.2 hlt
      have HLT := Lib.hid (HC.out.2.1 k)
      have HGE := Lib.hid (HC.out.2.2 k)
      obtain ⟨⟨ka, kb_, kc, kd⟩, hq4⟩ : ∃ q, gd4 t k = q := ⟨_, rfl⟩
      rw [hq4] at e0 e1 e2 e3 HLT HGE
      dsimp only at e0 e1 e2 e3 HLT HGE
      have HQ := Lib.hid hq4
      clear hq4
      have xe0 := keepc hW e0
      have xe1 := keepc hW e1
      have xe2 := keepc hW e2
      have xe3 := keepc hW e3
      have HW := Lib.hid hW
      clear hW
      have hbs := HW.out.size
      have HN1 := Lib.hid (fun (g : Bool) (h : g = true → c ≤ k) => ins_len (T := t) (q := ⟨f, x, y, z⟩) (c := c) (g := g) hk h)
      by_cases q1 : ka = f
      · have y1 : (ka == f) = true := by simp [q1]
        clear q1
        go_wp2_with fail
        go_ret
        exact ⟨rfl, HB.out⟩
      · have y1 : (ka == f) = false := by simp [q1]
        have HE2 : Hid (∀ j, j < k + 1 → (gd4 t j).a ≠ f) := fun j hj => by
          rcases Nat.lt_succ_iff_lt_or_eq.1 hj with e | rfl
          · exact HE.out j e
          · rw [HQ.out]; exact q1
        by_cases q2 : f < ka
        · have hck : c ≤ k := by
            refine Nat.le_of_not_lt fun h => ?_
            have := HLT.out h
            omega
          cases g
          · obtain rfl : k = c := by have := HK.out.2 rfl; omega
            have hln : (ins t ⟨f, x, y, z⟩ k k false).length ≤ 200 := by have := HN1.out false (fun h => (Bool.noConfusion h)); rw [this]; simp; omega
            have hln2 : (ins t ⟨f, x, y, z⟩ k k true).length ≤ 200 := by have := HN1.out true (fun _ => Nat.le_refl _); rw [this]; simp; omega
            have HI : Hid (ins t ⟨f, x, y, z⟩ k k true ++ [⟨ka, kb_, kc, kd⟩] = ins t ⟨f, x, y, z⟩ k (k + 1) true) := by
              show _ = _
              rw [← HQ.out]
              exact ins_t hlt (Nat.le_refl _)
            go_wp2_with (first
            | (at_builtin; (refine wpList_app _ rfl (.tmp 77) (.tmp 81) 22 rfl w5.heap.size 32 i0 _ 4 32 Try.underlying22 hi0 hz0 hz1 hz2 rfl (by omega) _ _ _ rfl (HO.out.alloc _) (some ⟨wr.heap.size, 0, none⟩) 1 1 [.int .i64 f, .int .i64 x, .int .i64 y, .int .i64 z] rfl rfl (src_new wr #[.int .i64 f, .int .i64 x, .int .i64 y, .int .i64 z] 32) (q4c_one ⟨f, x, y, z⟩) (by unfold maxLen; omega) (by omega) (Nat.le_trans HW.out.size (below_new _ _).size) ?_); intro v1 u1 own1_ gr1; have hb1 := app_bel HW.out HO.out gr1; have own1 := app_row (x := ⟨f, x, y, z⟩) own1_ ins_q; have hs1 := hb1.size; have xe0 := keepc hb1 e0; have xe1 := keepc hb1 e1; have xe2 := keepc hb1 e2; have xe3 := keepc hb1 e3; clear gr1 own1_)
            | (at_builtin; (refine wpList_app _ rfl (.tmp 83) (.tmp 88) 22 rfl w5.heap.size 32 i0 _ 4 32 Try.underlying22 hi0 hz0 hz1 hz2 rfl (by omega) _ _ _ rfl (own1.alloc _) (some ⟨u1.heap.size, 0, none⟩) 1 1 [.int .i64 ka, .int .i64 kb_, .int .i64 kc, .int .i64 kd] rfl rfl (src_new u1 #[.int .i64 ka, .int .i64 kb_, .int .i64 kc, .int .i64 kd] 32) (q4c_one ⟨ka, kb_, kc, kd⟩) (by unfold maxLen; omega) (by omega) (Nat.le_trans hb1.size (below_new _ _).size) ?_); intro v2 u2 own2_ gr2; have hb2 := app_bel hb1 own1 gr2; have own2 := app_row (x := ⟨ka, kb_, kc, kd⟩) own2_ HI.out; have hs2 := hb2.size; clear gr2 own2_))
            go_roundw
            case rel => exact ⟨k + 1, true, hlt, int_of (by first | rfl | exact w1_ | exact w2_), rfl, ⟨fun _ => Nat.lt_succ_self _, fun h => (Bool.noConfusion h)⟩, HE2.out, own2, hb2⟩
            case measure => simp [intOf, w1_, w2_]; clear w1_ w2_; omega
          · have hln : (ins t ⟨f, x, y, z⟩ c k true).length ≤ 200 := by have := HN1.out true (fun _ => hck); rw [this]; simp; omega
            have HI : Hid (ins t ⟨f, x, y, z⟩ c k true ++ [⟨ka, kb_, kc, kd⟩] = ins t ⟨f, x, y, z⟩ c (k + 1) true) := by
              show _ = _
              rw [← HQ.out]
              exact ins_t hlt hck
            go_wp2_with (first
            | (at_builtin; (refine wpList_app _ rfl (.tmp 83) (.tmp 88) 22 rfl w5.heap.size 32 i0 _ 4 32 Try.underlying22 hi0 hz0 hz1 hz2 rfl (by omega) _ _ _ rfl (HO.out.alloc _) (some ⟨wr.heap.size, 0, none⟩) 1 1 [.int .i64 ka, .int .i64 kb_, .int .i64 kc, .int .i64 kd] rfl rfl (src_new wr #[.int .i64 ka, .int .i64 kb_, .int .i64 kc, .int .i64 kd] 32) (q4c_one ⟨ka, kb_, kc, kd⟩) (by unfold maxLen; omega) (by omega) (Nat.le_trans HW.out.size (below_new _ _).size) ?_); intro v1 u1 own1_ gr1; have hb1 := app_bel HW.out HO.out gr1; have own1 := app_row (x := ⟨ka, kb_, kc, kd⟩) own1_ HI.out; have hs1 := hb1.size; clear gr1 own1_))
            go_roundw
            case rel => exact ⟨k + 1, true, hlt, int_of (by first | rfl | exact w1_ | exact w2_), rfl, ⟨fun _ => by omega, fun h => (Bool.noConfusion h)⟩, HE2.out, own1, hb1⟩
            case measure => simp [intOf, w1_, w2_]; clear w1_ w2_; omega
        · have hck : k < c := by
            refine Nat.lt_of_not_le fun h => ?_
            have := HGE.out h hlt
            omega
          cases g
          · have hln : (ins t ⟨f, x, y, z⟩ c k false).length ≤ 200 := by have := HN1.out false (fun h => (Bool.noConfusion h)); rw [this]; simp; omega
            have HI : Hid (ins t ⟨f, x, y, z⟩ c k false ++ [⟨ka, kb_, kc, kd⟩] = ins t ⟨f, x, y, z⟩ c (k + 1) false) := by
              show _ = _
              rw [← HQ.out]
              exact ins_f hlt
            go_wp2_with (first
            | (at_builtin; (refine wpList_app _ rfl (.tmp 83) (.tmp 88) 22 rfl w5.heap.size 32 i0 _ 4 32 Try.underlying22 hi0 hz0 hz1 hz2 rfl (by omega) _ _ _ rfl (HO.out.alloc _) (some ⟨wr.heap.size, 0, none⟩) 1 1 [.int .i64 ka, .int .i64 kb_, .int .i64 kc, .int .i64 kd] rfl rfl (src_new wr #[.int .i64 ka, .int .i64 kb_, .int .i64 kc, .int .i64 kd] 32) (q4c_one ⟨ka, kb_, kc, kd⟩) (by unfold maxLen; omega) (by omega) (Nat.le_trans HW.out.size (below_new _ _).size) ?_); intro v1 u1 own1_ gr1; have hb1 := app_bel HW.out HO.out gr1; have own1 := app_row (x := ⟨ka, kb_, kc, kd⟩) own1_ HI.out; have hs1 := hb1.size; clear gr1 own1_))
            go_roundw
            case rel => exact ⟨k + 1, false, hlt, int_of (by first | rfl | exact w1_ | exact w2_), rfl, ⟨fun h => (Bool.noConfusion h), fun _ => hck⟩, HE2.out, own1, hb1⟩
            case measure => simp [intOf, w1_, w2_]; clear w1_ w2_; omega
          · have := HK.out.1 rfl
            omega
    · have hke : k = t.length := Nat.le_antisymm hk (Nat.le_of_not_lt hlt)
      subst hke
      clear w1_ w2_
      have hcl := HC.out.1
      have HGT : Hid (∀ j, c ≤ j → j < t.length → f < (gd4 t j).a) := fun j h1 h2 => by
        have := HC.out.2.2 j h1 h2
        have := HE.out j h2
        omega
      have CM := Lib.hid (fun A C W (h : S4 W A (insq t ⟨f, x, y, z⟩ c)) => at_is A C (insq t ⟨f, x, y, z⟩ c) m (by rw [insq_len hcl]; omega) a_ b_ c_ u_ E (atr_insq hcl HS.out hn rfl ⟨h0, h9⟩ HD.out HC.out.2.1 HGT.out HAT.out) W h)
      have CV := Lib.hid (fun A C W (h : S4 W A (insq t ⟨f, x, y, z⟩ c)) => svalid_is A C (insq t ⟨f, x, y, z⟩ c) (by rw [insq_len hcl]; omega) true (iff_of_true rfl (sok_insq hcl HS.out hn rfl ⟨h0, h9⟩ (dir_dr HS.out HD.out) HC.out.2.1 HGT.out)) W h)
      have ev := fun W => vec_eq (a := a_) (b := b_) (c := c_) (x := a_) (y := b_) (z := c_) (r := true) (decide_eq_true ⟨rfl, rfl, rfl⟩) W
      cases g
      · obtain rfl : t.length = c := by have := HK.out.2 rfl; omega
        have hi : ins t ⟨f, x, y, z⟩ t.length t.length false ++ [⟨f, x, y, z⟩] = insq t ⟨f, x, y, z⟩ t.length := by unfold ins insq; simp
        have HI := Lib.hid hi
        clear hi
        have hln : (ins t ⟨f, x, y, z⟩ t.length t.length false).length ≤ 200 := by rw [ins_len (Nat.le_refl _) (fun h => (Bool.noConfusion h))]; simp; omega
        have HW := Lib.hid hW
        clear hW
        go_wp2_with (first
        | (at_builtin; (refine wpList_app _ rfl (.tmp 92) (.tmp 96) 22 rfl w5.heap.size 32 i0 _ 4 32 Try.underlying22 hi0 hz0 hz1 hz2 rfl (by omega) _ _ _ rfl (HO.out.alloc _) (some ⟨wr.heap.size, 0, none⟩) 1 1 [.int .i64 f, .int .i64 x, .int .i64 y, .int .i64 z] rfl rfl (src_new wr #[.int .i64 f, .int .i64 x, .int .i64 y, .int .i64 z] 32) (q4c_one ⟨f, x, y, z⟩) (by unfold maxLen; omega) (by omega) (Nat.le_trans HW.out.size (below_new _ _).size) ?_); intro v1 u1 own1_ gr1; have hb1 := app_bel HW.out HO.out gr1; have own1 := app_row (x := ⟨f, x, y, z⟩) own1_ HI.out; have hs1 := hb1.size; clear gr1 own1_))
        obtain ⟨mA, mC, rfl, _, _, _, hms⟩ := own_s4 own1
        have HM := Lib.hid hms
        clear hms
        have HY := Lib.hid hb1
        with_reducible refine (C2.out _ (HT.out.below HY.out)).mono ?_
        rintro e_ y1 ⟨rfl, hb⟩
        replace HM := Lib.hid (HM.out.below hb)
        replace HY := Lib.hid (on_below HY.out hb)
        clear hb
        go_wp2_with fail
        have hb := below_new y1 (.cells #[.int .i64 a_, .int .i64 b_, .int .i64 c_] 27)
        have r0 : World.cell? (y1.alloc (.cells #[.int .i64 a_, .int .i64 b_, .int .i64 c_] 27)) ⟨y1.heap.size, 0, none⟩ = some (.int .i64 a_) := by simp [go_sem]
        have r1 : World.cell? (y1.alloc (.cells #[.int .i64 a_, .int .i64 b_, .int .i64 c_] 27)) ⟨y1.heap.size, 1, none⟩ = some (.int .i64 b_) := by simp [go_sem]
        have r2 : World.cell? (y1.alloc (.cells #[.int .i64 a_, .int .i64 b_, .int .i64 c_] 27)) ⟨y1.heap.size, 2, none⟩ = some (.int .i64 c_) := by simp [go_sem]
        generalize y1.alloc (.cells #[.int .i64 a_, .int .i64 b_, .int .i64 c_] 27) = y2 at *
        replace HM := Lib.hid (HM.out.below hb)
        replace HY := Lib.hid (on_below HY.out hb)
        clear hb
        have lr := block_lt r0
        generalize y1.heap.size = gr at r0 r1 r2 lr ⊢
        with_reducible refine (CM.out _ _ _ HM.out).mono ?_
        rintro e_ y3 ⟨rfl, hb⟩
        replace HM := Lib.hid (HM.out.below hb)
        replace HY := Lib.hid (on_below HY.out hb)
        replace r0 := keepc hb r0
        replace r1 := keepc hb r1
        replace r2 := keepc hb r2
        replace lr := Nat.lt_of_lt_of_le lr hb.size
        clear hb
        go_wp2_with fail
        have hb := below_new y3 (.cells #[.int .i64 a_, .int .i64 b_, .int .i64 c_] 27)
        have s0 : World.cell? (y3.alloc (.cells #[.int .i64 a_, .int .i64 b_, .int .i64 c_] 27)) ⟨y3.heap.size, 0, none⟩ = some (.int .i64 a_) := by simp [go_sem]
        have s1 : World.cell? (y3.alloc (.cells #[.int .i64 a_, .int .i64 b_, .int .i64 c_] 27)) ⟨y3.heap.size, 1, none⟩ = some (.int .i64 b_) := by simp [go_sem]
        have s2 : World.cell? (y3.alloc (.cells #[.int .i64 a_, .int .i64 b_, .int .i64 c_] 27)) ⟨y3.heap.size, 2, none⟩ = some (.int .i64 c_) := by simp [go_sem]
        generalize y3.alloc (.cells #[.int .i64 a_, .int .i64 b_, .int .i64 c_] 27) = y4 at *
        replace r0 := keepc hb r0
        replace r1 := keepc hb r1
        replace r2 := keepc hb r2
        replace HM := Lib.hid (HM.out.below hb)
        replace HY := Lib.hid (on_below HY.out hb)
        clear hb
        have ls := block_lt s0
        generalize y3.heap.size = gs at s0 s1 s2 ls ⊢
        have lr := block_lt r0
        with_reducible refine (CV.out _ _ _ HM.out).mono ?_
        rintro e_ y5 ⟨rfl, hb⟩
        replace HM := Lib.hid (HM.out.below hb)
        replace HY := Lib.hid (on_below HY.out hb)
        replace r0 := keepc hb r0
        replace r1 := keepc hb r1
        replace r2 := keepc hb r2
        replace s0 := keepc hb s0
        replace s1 := keepc hb s1
        replace s2 := keepc hb s2
        have lr := block_lt r0
        have ls := block_lt s0
        have HZ := Lib.hid (on_below HB0.out HY.out)
        clear hb
        go_wp2_with fail
        go_ret
        exact ⟨rfl, HZ.out⟩
      · have hi : ins t ⟨f, x, y, z⟩ c t.length true = insq t ⟨f, x, y, z⟩ c := by unfold ins insq; simp
        rw [hi] at HO
        clear hi
        go_wp2_with fail
        obtain ⟨mA, mC, rfl, _, _, _, hms⟩ := own_s4 HO.out
        have HM := Lib.hid hms
        clear hms
        have HY := Lib.hid hW
        with_reducible refine (C2.out _ (HT.out.below HY.out)).mono ?_
        rintro e_ y1 ⟨rfl, hb⟩
        replace HM := Lib.hid (HM.out.below hb)
        replace HY := Lib.hid (on_below HY.out hb)
        clear hb
        go_wp2_with fail
        have hb := below_new y1 (.cells #[.int .i64 a_, .int .i64 b_, .int .i64 c_] 27)
        have r0 : World.cell? (y1.alloc (.cells #[.int .i64 a_, .int .i64 b_, .int .i64 c_] 27)) ⟨y1.heap.size, 0, none⟩ = some (.int .i64 a_) := by simp [go_sem]
        have r1 : World.cell? (y1.alloc (.cells #[.int .i64 a_, .int .i64 b_, .int .i64 c_] 27)) ⟨y1.heap.size, 1, none⟩ = some (.int .i64 b_) := by simp [go_sem]
        have r2 : World.cell? (y1.alloc (.cells #[.int .i64 a_, .int .i64 b_, .int .i64 c_] 27)) ⟨y1.heap.size, 2, none⟩ = some (.int .i64 c_) := by simp [go_sem]
        generalize y1.alloc (.cells #[.int .i64 a_, .int .i64 b_, .int .i64 c_] 27) = y2 at *
        replace HM := Lib.hid (HM.out.below hb)
        replace HY := Lib.hid (on_below HY.out hb)
        clear hb
        have lr := block_lt r0
        generalize y1.heap.size = gr at r0 r1 r2 lr ⊢
        with_reducible refine (CM.out _ _ _ HM.out).mono ?_
        rintro e_ y3 ⟨rfl, hb⟩
        replace HM := Lib.hid (HM.out.below hb)
        replace HY := Lib.hid (on_below HY.out hb)
        replace r0 := keepc hb r0
        replace r1 := keepc hb r1
        replace r2 := keepc hb r2
        replace lr := Nat.lt_of_lt_of_le lr hb.size
        clear hb
        go_wp2_with fail
        have hb := below_new y3 (.cells #[.int .i64 a_, .int .i64 b_, .int .i64 c_] 27)
        have s0 : World.cell? (y3.alloc (.cells #[.int .i64 a_, .int .i64 b_, .int .i64 c_] 27)) ⟨y3.heap.size, 0, none⟩ = some (.int .i64 a_) := by simp [go_sem]
        have s1 : World.cell? (y3.alloc (.cells #[.int .i64 a_, .int .i64 b_, .int .i64 c_] 27)) ⟨y3.heap.size, 1, none⟩ = some (.int .i64 b_) := by simp [go_sem]
        have s2 : World.cell? (y3.alloc (.cells #[.int .i64 a_, .int .i64 b_, .int .i64 c_] 27)) ⟨y3.heap.size, 2, none⟩ = some (.int .i64 c_) := by simp [go_sem]
        generalize y3.alloc (.cells #[.int .i64 a_, .int .i64 b_, .int .i64 c_] 27) = y4 at *
        replace r0 := keepc hb r0
        replace r1 := keepc hb r1
        replace r2 := keepc hb r2
        replace HM := Lib.hid (HM.out.below hb)
        replace HY := Lib.hid (on_below HY.out hb)
        clear hb
        have ls := block_lt s0
        generalize y3.heap.size = gs at s0 s1 s2 ls ⊢
        have lr := block_lt r0
        with_reducible refine (CV.out _ _ _ HM.out).mono ?_
        rintro e_ y5 ⟨rfl, hb⟩
        replace HM := Lib.hid (HM.out.below hb)
        replace HY := Lib.hid (on_below HY.out hb)
        replace r0 := keepc hb r0
        replace r1 := keepc hb r1
        replace r2 := keepc hb r2
        replace s0 := keepc hb s0
        replace s1 := keepc hb s1
        replace s2 := keepc hb s2
        have lr := block_lt r0
        have ls := block_lt s0
        have HZ := Lib.hid (on_below HB0.out HY.out)
        clear hb
        go_wp2_with fail
        go_ret
        exact ⟨rfl, HZ.out⟩
theorem law_any (tA : Option Addr) (tC : Nat) (t : List Q4) (f : Int) (jf : I64 f) (m : Int) (im : I64 m) (w : World) (lt : L4 w tA tC t) :
    Calls Try.prog 7 #[.slice tA t.length tC, .int .i64 f, .int .i64 m] w fun e_ w' => e_ = .returned (.bool true) ∧ Below w.heap.size w w' := by
  have h4 : t.length ≤ 9223372036854775807 := Nat.le_trans lt.cap.1 lt.cap.2
  by_cases hf : FewS t.length []
  · by_cases hs : Sok t
    · by_cases hn : t.length < 100
      · by_cases h0 : f < 0
        · exact rep_3 tA tC t f m jf im h4 hf hs hn h0 w lt.sl
        · by_cases h9 : 1439 < f
          · exact rep_4 tA tC t f m jf im h4 hf hs hn h9 w lt.sl
          · obtain ⟨x, y, z, hd⟩ := dir_ex hs.n1 f
            obtain ⟨c, hc⟩ := cnt_ex t hs f
            obtain ⟨a_, b_, c_, u_, E, ha⟩ := at_ex2 t m
            exact rep_5 tA tC t f m jf im h4 hf hs hn (by omega) (by omega) x y z hd c hc a_ b_ c_ u_ E ha w lt.sl
      · exact rep_2 tA tC t f m jf im h4 hf hs (by omega) w lt.sl
    · exact rep_1 tA tC t f m jf im h4 hf hs w lt.sl
  · exact rep_0 tA tC t f m jf im h4 hf w lt.sl
/-! ### The row -/
open Go.ChangeShapes Go.WideShapes Go.ChangeAt Go.Joins
theorem own : ownKnob Try.prog.godebug = none := by kernel_rfl
noncomputable def laidWorld (os : Os) : World := World.holding Try.prog os ⟨#[], #[], []⟩
theorem laidWorld_met (os : Os) (args : Array Value) : laidMet Try.prog [] ((laidWorld os).forCall (fun _ _ => 0) ⟨#[], args, []⟩).memory :=
  laidMet_of_run' 8 (by kernel_rfl) (by kernel_rfl)

set_option maxRecDepth 100000 in
theorem contract (H : Type) (enc : TypeId × Value → H) (W : World) (base : Nat) (args : Array Value) (ds gs : List (DataW H)) (before : List MemPlace)
    (hval : ∀ (j : Nat) t v, Try.f7.params[j]? = some t → args[j]? = some v → Value.okWide Try.prog W .any base t v)
    (hW : DataW.Whole enc Try.prog Try.f7.params.toList Rows.sunRepeatsSpec.vars false W args.toList ds gs before) :
    Calls Try.prog 7 args W fun e W' => ∃ v, e = .returned v ∧ Rows.sunRepeatsSpec.post enc Try.prog Try.f7 false true false false W args v W' := by
  have hW' := hW
  have hold : ∀ q ∈ before, decide (q.block < W.heap.size) = true := fun q hq => by simpa using hW.lt q hq
  obtain ⟨p, q, hA0, hV, rfl, hfz, hnd⟩ := hW
  have hA : DataW.TrodAll enc Try.prog W 0 (fun _ => true) true Try.f7.params.toList args.toList ds p := hA0
  rw [Try.params7] at hA hval
  obtain ⟨v0, vs0, d0, ds0, p0, q0, hargs, rfl, rfl, h0, r0⟩ := trodAll_cons hA
  obtain ⟨v1, vs1, d1, ds1, p1, q1, rfl, rfl, rfl, h1, r1⟩ := trodAll_cons r0
  obtain ⟨v2, vs2, d2, ds2, p2, q2, rfl, rfl, rfl, h2, r2⟩ := trodAll_cons r1
  obtain ⟨rfl, rfl, rfl⟩ := trodAll_nil r2
  obtain rfl : args = #[v0, v1, v2] := Array.toList_inj.1 hargs
  obtain ⟨rfl, rfl⟩ := trodVars_none hV
  obtain ⟨tA, tC, t, rfl, lt, shutt⟩ := open_suns (hval 0 22 v0 rfl rfl) h0
  obtain ⟨o, rfl, rfl, rfl, io⟩ := open_int Try.underlying3 (hval 1 3 v1 rfl rfl) h1
  obtain ⟨m, rfl, rfl, rfl, im⟩ := open_int Try.underlying3 (hval 2 3 v2 rfl rfl) h2
  clear hA0
  refine (law_any tA tC t o (wf_i io) m (wf_i im) W lt).mono fun e W' ⟨he, bel⟩ => ?_
  subst he
  exact ⟨_, rfl, _, _, _, [], _, [], hW', trodAll_mk1 (shut_bool Try.underlying4 _), (trodAll_cons_mk (shutt W' (fun b => decide (b < W.heap.size)) bel (fun q hq => hold q (by simp [hq]))) (trodAll_cons_mk (shut_int Try.underlying3 io) (trodAll_cons_mk (shut_int Try.underlying3 im) trodAll_mk0))), rfl, bel.frame _, fun h => by cases h⟩

theorem reads (os : Os) {H : Type} (enc : TypeId × Value → H) : ∃ places, DataW.whole enc Try.prog ((laidWorld os).forCall (fun _ _ => 0) ⟨#[], #[.slice none 0 0, .int .i64 0, .int .i64 0], []⟩).memory Try.f7.params.toList Rows.sunRepeatsSpec.vars false (#[.slice none 0 0, .int .i64 0, .int .i64 0] : Array Value).toList 8 = some ([.nil, .lit (.int .i64 0), .lit (.int .i64 0)], [], places) :=
  ⟨[], by kernel_rfl⟩

set_option maxRecDepth 100000 in
theorem lifted (os : Os) (started : os.Started) (H : Type) (enc : TypeId × Value → H) (F : Stop.Interp) :
    ReturnsInHanded {} Try.checked os 7 .any ((OpenSpec.ofChange Rows.sunRepeatsSpec).preRow enc Try.prog Try.f7 Rows.sunRepeatsRow.domain false Rows.sunRepeatsRow.laid) (((OpenSpec.ofChange Rows.sunRepeatsSpec).at F).post enc Try.prog Try.f7 false true false false) := by
  obtain ⟨places, hx⟩ := reads os enc
  refine returnsInHanded_of_row (C := Try.checked) (s := OpenSpec.ofChange Rows.sunRepeatsSpec) own started (by kernel_rfl) Try.func7
    (witness_row_atRef (enc := enc) (C := Try.checked) false (laidWorld os) #[.slice none 0 0, .int .i64 0, .int .i64 0] rfl (by kernel_rfl) (by kernel_rfl) (by kernel_rfl)
      (OpenSpec.preRow_of_cond 8 hx (by kernel_rfl) (fun k hk => by cases hk) (by kernel_rfl) (laidWorld_met os _))) ?_
  intro W base args ds gs before hval hW _ hcond _ hL hsh _
  exact contract H enc W base args ds gs before hval hW

/-- The statement. -/
theorem said : Rows.SunRepeatsSaid :=
  OpenClaim.holds_of_cond 7 Try.f7 rfl rfl rfl rfl rfl rfl rfl ⟨rfl, rfl, rfl, rfl, rfl⟩ rfl rfl rfl rfl rfl (by kernel_rfl) Try.func7 (by kernel_rfl)
    (of_decide_eq_true (by kernel_rfl)) (by unfold Func.isWrapper; first | (rw [if_pos (by decide +kernel)]; kernel_rfl) | (rw [if_neg (by decide +kernel)]; exact ⟨rfl, rfl⟩))
    (fun os started H enc _ F => by rw [OpenClaim.pre_eq_preRow]; exact lifted os started H enc F)
end Go.Proofs.Ytjjimbaogpmbmaa.LawRep
