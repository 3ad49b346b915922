/-
  The reference of package rational: Parse answers as that of package rational does, for any string.
-/
import Derived.Test.YtpmlfchbihoflaaDoorRatRI
import Derived.Test.YtpmlfchbihoflaaDoorRatRJ
namespace Go.Proofs.YtpmlfchbihoflaaDoor
open Go.RowKit Go.Sort
open Go.RowKit (Below)

/-- The first slash. -/
theorem first47 : ∀ l : List UInt8, (47 : UInt8) ∈ l → ∃ m : Nat, ∃ hm : m < l.length, (∀ i (hi : i < l.length), i < m → l[i] ≠ 47) ∧ l[m] = 47
  | [], h => by cases h
  | c :: l, h => by
    by_cases hc : c = 47
    · exact ⟨0, by simp, fun i hi him => by omega, hc⟩
    · have h2 : (47 : UInt8) ∈ l := by
        rcases List.mem_cons.1 h with rfl | hx
        · exact absurd rfl hc
        · exact hx
      obtain ⟨m, hm, h4, h5⟩ := first47 l h2
      refine ⟨m + 1, by simpa using hm, fun i hi him => ?_, by simpa using h5⟩
      cases i with
      | zero => exact hc
      | succ i => simpa using h4 i (by simpa using hi) (by omega)

theorem at_list (s : ByteArray) (i : Nat) (hi : i < s.size) : s.data.toList[i]'(by rw [len_data]; exact hi) = s[i] := by simp; rfl
theorem u8_ne {c : UInt8} (h : c ≠ 47) : ((c.toNat : Int) != 47) = true := by
  simp only [bne_iff_ne]
  intro e
  exact h (UInt8.toNat_inj.1 (by show c.toNat = 47; omega))

/-- A byte array without a slash, or with its first one. -/
theorem slash_at (s : ByteArray) : ((47 : UInt8) ∉ s.data.toList ∧ ∀ i (hi : i < s.size), i < s.size → ((s[i].toNat : Int) != 47) = true) ∨
    ∃ p, ∃ hp : p < s.size, (∀ i (hi : i < s.size), i < p → ((s[i].toNat : Int) != 47) = true) ∧ ((s[p].toNat : Int) != 47) = false ∧ (47 : UInt8) ∉ s.data.toList.take p ∧
      s.data.toList = s.data.toList.take p ++ 47 :: s.data.toList.drop (p + 1) := by
  by_cases h : (47 : UInt8) ∈ s.data.toList
  · right
    obtain ⟨m, hm, h1, h2⟩ := first47 _ h
    have hm' : m < s.size := by rw [len_data] at hm; exact hm
    refine ⟨m, hm', fun i hi him => u8_ne (at_list s i hi ▸ h1 i (by rw [len_data]; exact hi) him), ?_, ?_, ?_⟩
    · rw [at_list s m hm'] at h2
      rw [h2]; rfl
    · intro hx
      obtain ⟨i, hi, hx⟩ := List.mem_iff_getElem.1 hx
      rw [List.getElem_take] at hx
      rw [List.length_take] at hi
      exact h1 i (by omega) (by omega) hx
    · have e := List.drop_eq_getElem_cons hm
      rw [h2] at e
      rw [← e, List.take_append_drop]
  · left
    refine ⟨h, fun i hi _ => u8_ne fun e => h ?_⟩
    rw [← e]
    exact mem_at s i hi
theorem num_ext (s : ByteArray) (a b : Nat) (l : List UInt8) (hl : s.size < 140737488355328) (e : (s.extract a b).data.toList = l) (v : Int) (ok : Bool) (hv : nmV l = v) (hk : nmB l = ok) (W : World) :
    Calls Tryd.prog 51 #[.string (s.extract a b)] W fun e w' => e = .returned (.tuple #[.int .i64 v, .bool ok]) ∧ Below W.heap.size W w' := by
  have hz : (s.extract a b).size ≤ 281474976710656 := by
    have : (s.extract a b).size ≤ s.size := by rw [ByteArray.size_extract]; omega
    omega
  have h := number_any (s.extract a b) W hz
  rw [e, hv, hk] at h
  exact h
theorem ext_top (s : ByteArray) (p : Nat) : (s.extract 0 p).data.toList = s.data.toList.take p := by rw [Lib.extract_data]; simp
theorem ext_bot (s : ByteArray) (p : Nat) : (s.extract p s.size).data.toList = s.data.toList.drop p := by
  rw [Lib.extract_data]
  exact List.take_of_length_le (by rw [List.length_drop, len_data]; omega)
theorem rest_some {l : List UInt8} {N D : Int} (h : prs l = some (N, D)) : prsN l = N ∧ prsD l = D ∧ prsE l = 0 := by unfold prsN prsD prsE; rw [h]; exact ⟨rfl, rfl, rfl⟩
theorem rest_none {l : List UInt8} (h : prs l = none) : prsN l = 0 ∧ prsD l = 0 ∧ prsE l = 8 := by unfold prsN prsD prsE; rw [h]; exact ⟨rfl, rfl, rfl⟩
/-- What Parse's reference answers. -/
def RefP (s : ByteArray) (w : World) : Prop := Calls Tryd.prog 25 #[.string s] w
  fun e w' => e = .returned (.tuple #[.agg #[.int .i64 (prsN s.data.toList), .int .i64 (prsD s.data.toList)], .int .i64 (prsE s.data.toList)]) ∧ Below w.heap.size w w'
theorem refp_none {s : ByteArray} {w : World} (h : prs s.data.toList = none) (k : Calls Tryd.prog 25 #[.string s] w fun e w' => e = .returned (.tuple #[.agg #[.int .i64 0, .int .i64 0], .int .i64 8]) ∧ Below w.heap.size w w') : RefP s w := by
  unfold RefP
  rw [(rest_none h).1, (rest_none h).2.1, (rest_none h).2.2]; exact k
theorem refp_some {s : ByteArray} {w : World} {N D : Int} (h : prs s.data.toList = some (N, D)) (k : Calls Tryd.prog 25 #[.string s] w fun e w' => e = .returned (.tuple #[.agg #[.int .i64 N, .int .i64 D], .int .i64 0]) ∧ Below w.heap.size w w') : RefP s w := by
  unfold RefP
  rw [(rest_some h).1, (rest_some h).2.1, (rest_some h).2.2]; exact k
theorem val_b (n d : Int) (b : Bool) (h : vld n d = b) (hn : -9999999999 ≤ n ∧ n ≤ 9999999999) (hd : -9999999999 ≤ d ∧ d ≤ 9999999999) (w : World) :
    Calls Tryd.prog 7 #[.agg #[.int .i64 n, .int .i64 d]] w fun e w' => e = .returned (.bool b) ∧ Below w.heap.size w w' := by
  subst h; exact refvalid_any n d w ⟨by omega, by omega⟩ ⟨by omega, by omega⟩

theorem refp_p0 (s : ByteArray) (w : World) (hl : s.size < 140737488355328) (h0 : 0 < s.size) (hm : ((s[0].toNat : Int) == 45) = false) (p : Nat) (hne : ∀ i (hi : i < s.size), i < p → ((s[i].toNat : Int) != 47) = true) (hp : p ≤ s.size) (hp2 : s.size ≤ p) (top bot : List UInt8) (h1 : (s.extract 0 p).data.toList = top) (hF : Parts s.data.toList false top false bot) : RefP s w := by
  have bt := nmV_bd top
  have bb := nmV_bd bot
  have K1 := fun ok hk W => num_ext s 0 p top hl h1 (nmV top) ok rfl hk W
  cases ho : nmB top with
  | false => exact refp_none (ref_none hF fun h => by rw [h.1] at ho; cases ho) (refparse_p0_A s w hl h0 hm p hne hp hp2 (nmV top) bt.1 bt.2 (K1 _ ho))
  | true =>
    cases hv : vld (nmV top) (1) with
    | false => exact refp_none (ref_none hF fun h => by have h := h.2.2.2; simp only [Bool.false_eq_true, if_false] at h; rw [hv] at h; cases h) (refparse_p0_E s w hl h0 hm p hne hp hp2 (nmV top) bt.1 bt.2 (K1 _ ho) (val_b _ _ false hv (by omega) (by omega)))
    | true => exact refp_some (ref_some hF ⟨ho, (fun h => by cases h), (fun h => by cases h), hv⟩) (refparse_p0_F s w hl h0 hm p hne hp hp2 (nmV top) bt.1 bt.2 (K1 _ ho) (val_b _ _ true hv (by omega) (by omega)))

theorem refp_m0 (s : ByteArray) (w : World) (hl : s.size < 140737488355328) (h0 : 0 < s.size) (hm : ((s[0].toNat : Int) == 45) = true) (t : ByteArray) (ht : s.extract 1 s.size = t) (hl2 : t.size < 140737488355328) (p : Nat) (hne : ∀ i (hi : i < t.size), i < p → ((t[i].toNat : Int) != 47) = true) (hp : p ≤ t.size) (hp2 : t.size ≤ p) (top bot : List UInt8) (h1 : (t.extract 0 p).data.toList = top) (hF : Parts s.data.toList true top false bot) : RefP s w := by
  have bt := nmV_bd top
  have bb := nmV_bd bot
  have K1 := fun ok hk W => num_ext t 0 p top hl2 h1 (nmV top) ok rfl hk W
  cases ho : nmB top with
  | false => exact refp_none (ref_none hF fun h => by rw [h.1] at ho; cases ho) (refparse_m0_A s w hl h0 hm t ht hl2 p hne hp hp2 (nmV top) bt.1 bt.2 (K1 _ ho))
  | true =>
    by_cases hn : nmV top = 0
    · exact refp_none (ref_none hF fun h => h.2.2.1 rfl hn) (refparse_m0_D s w hl h0 hm t ht hl2 p hne hp hp2 (nmV top) bt.1 bt.2 (K1 _ ho) (by rw [hn]; rfl))
    · have hn' : (nmV top != 0) = true := by simpa using hn
      cases hv : vld (-nmV top) (1) with
      | false => exact refp_none (ref_none hF fun h => by have h := h.2.2.2; simp only [if_true, Bool.false_eq_true, if_false] at h; rw [hv] at h; cases h) (refparse_m0_E s w hl h0 hm t ht hl2 p hne hp hp2 (nmV top) bt.1 bt.2 (K1 _ ho) hn' (val_b _ _ false hv (by omega) (by omega)))
      | true => exact refp_some (ref_some hF ⟨ho, (fun h => by cases h), fun _ => hn, hv⟩) (refparse_m0_F s w hl h0 hm t ht hl2 p hne hp hp2 (nmV top) bt.1 bt.2 (K1 _ ho) hn' (val_b _ _ true hv (by omega) (by omega)))

theorem refp_p1 (s : ByteArray) (w : World) (hl : s.size < 140737488355328) (h0 : 0 < s.size) (hm : ((s[0].toNat : Int) == 45) = false) (p : Nat) (hne : ∀ i (hi : i < s.size), i < p → ((s[i].toNat : Int) != 47) = true) (hp : p < s.size) (hq : ((s[p].toNat : Int) != 47) = false) (top bot : List UInt8) (h1 : (s.extract 0 p).data.toList = top) (h2 : (s.extract (p + 1) s.size).data.toList = bot) (hF : Parts s.data.toList false top true bot) : RefP s w := by
  have bt := nmV_bd top
  have bb := nmV_bd bot
  have K1 := fun ok hk W => num_ext s 0 p top hl h1 (nmV top) ok rfl hk W
  have K2 := fun ok hk W => num_ext s (p + 1) s.size bot hl h2 (nmV bot) ok rfl hk W
  cases ho : nmB top with
  | false => exact refp_none (ref_none hF fun h => by rw [h.1] at ho; cases ho) (refparse_p1_A s w hl h0 hm p hne hp hq (nmV top) bt.1 bt.2 (K1 _ ho) (nmB bot) (nmV bot) (K2 _ rfl))
  | true =>
    cases hob : nmB bot with
    | false => exact refp_none (ref_none hF fun h => by have h := (h.2.1 rfl).1; rw [h] at hob; cases hob) (refparse_p1_B s w hl h0 hm p hne hp hq (nmV top) bt.1 bt.2 (K1 _ ho) (nmV bot) (K2 _ hob))
    | true =>
      by_cases hd : nmV bot = 1
      · exact refp_none (ref_none hF fun h => (h.2.1 rfl).2 hd) (refparse_p1_C s w hl h0 hm p hne hp hq (nmV top) bt.1 bt.2 (K1 _ ho) (nmV bot) (K2 _ hob) (by rw [hd]; rfl))
      · have hd' : (nmV bot != 1) = true := by simpa using hd
        cases hv : vld (nmV top) (nmV bot) with
        | false => exact refp_none (ref_none hF fun h => by have h := h.2.2.2; simp only [if_true, Bool.false_eq_true, if_false] at h; rw [hv] at h; cases h) (refparse_p1_E s w hl h0 hm p hne hp hq (nmV top) bt.1 bt.2 (K1 _ ho) (nmV bot) (K2 _ hob) hd' (val_b _ _ false hv (by omega) (by omega)))
        | true => exact refp_some (ref_some hF ⟨ho, fun _ => ⟨hob, hd⟩, (fun h => by cases h), hv⟩) (refparse_p1_F s w hl h0 hm p hne hp hq (nmV top) bt.1 bt.2 (K1 _ ho) (nmV bot) (K2 _ hob) hd' (val_b _ _ true hv (by omega) (by omega)))

theorem refp_m1 (s : ByteArray) (w : World) (hl : s.size < 140737488355328) (h0 : 0 < s.size) (hm : ((s[0].toNat : Int) == 45) = true) (t : ByteArray) (ht : s.extract 1 s.size = t) (hl2 : t.size < 140737488355328) (p : Nat) (hne : ∀ i (hi : i < t.size), i < p → ((t[i].toNat : Int) != 47) = true) (hp : p < t.size) (hq : ((t[p].toNat : Int) != 47) = false) (top bot : List UInt8) (h1 : (t.extract 0 p).data.toList = top) (h2 : (t.extract (p + 1) t.size).data.toList = bot) (hF : Parts s.data.toList true top true bot) : RefP s w := by
  have bt := nmV_bd top
  have bb := nmV_bd bot
  have K1 := fun ok hk W => num_ext t 0 p top hl2 h1 (nmV top) ok rfl hk W
  have K2 := fun ok hk W => num_ext t (p + 1) t.size bot hl2 h2 (nmV bot) ok rfl hk W
  cases ho : nmB top with
  | false => exact refp_none (ref_none hF fun h => by rw [h.1] at ho; cases ho) (refparse_m1_A s w hl h0 hm t ht hl2 p hne hp hq (nmV top) bt.1 bt.2 (K1 _ ho) (nmB bot) (nmV bot) (K2 _ rfl))
  | true =>
    cases hob : nmB bot with
    | false => exact refp_none (ref_none hF fun h => by have h := (h.2.1 rfl).1; rw [h] at hob; cases hob) (refparse_m1_B s w hl h0 hm t ht hl2 p hne hp hq (nmV top) bt.1 bt.2 (K1 _ ho) (nmV bot) (K2 _ hob))
    | true =>
      by_cases hd : nmV bot = 1
      · exact refp_none (ref_none hF fun h => (h.2.1 rfl).2 hd) (refparse_m1_C s w hl h0 hm t ht hl2 p hne hp hq (nmV top) bt.1 bt.2 (K1 _ ho) (nmV bot) (K2 _ hob) (by rw [hd]; rfl))
      · have hd' : (nmV bot != 1) = true := by simpa using hd
        by_cases hn : nmV top = 0
        · exact refp_none (ref_none hF fun h => h.2.2.1 rfl hn) (refparse_m1_D s w hl h0 hm t ht hl2 p hne hp hq (nmV top) bt.1 bt.2 (K1 _ ho) (nmV bot) (K2 _ hob) hd' (by rw [hn]; rfl))
        · have hn' : (nmV top != 0) = true := by simpa using hn
          cases hv : vld (-nmV top) (nmV bot) with
          | false => exact refp_none (ref_none hF fun h => by have h := h.2.2.2; simp only [if_true] at h; rw [hv] at h; cases h) (refparse_m1_E s w hl h0 hm t ht hl2 p hne hp hq (nmV top) bt.1 bt.2 (K1 _ ho) (nmV bot) (K2 _ hob) hd' hn' (val_b _ _ false hv (by omega) (by omega)))
          | true => exact refp_some (ref_some hF ⟨ho, fun _ => ⟨hob, hd⟩, fun _ => hn, hv⟩) (refparse_m1_F s w hl h0 hm t ht hl2 p hne hp hq (nmV top) bt.1 bt.2 (K1 _ ho) (nmV bot) (K2 _ hob) hd' hn' (val_b _ _ true hv (by omega) (by omega)))

theorem refparse_any (s : ByteArray) (w : World) (hl : s.size < 140737488355328) : RefP s w := by
  by_cases h0 : s.size = 0
  · have e0 : s.data.toList = [] := List.length_eq_zero_iff.1 (by rw [len_data]; exact h0)
    have h1 : (s.extract 0 0).data.toList = [] := by rw [ext_top]; rfl
    have hx : prs s.data.toList = none := by rw [e0]; decide +kernel
    exact refp_none hx (refparse_e0_A s w hl h0 0 (fun i hi => by omega) (by omega) (by omega) 0 (by omega) (by omega) (num_ext s 0 0 [] hl h1 0 false rfl rfl))
  · have h0' : 0 < s.size := by omega
    have hh : s.data.toList.head? = some s[0] := by
      rw [List.head?_eq_getElem?, List.getElem?_eq_getElem (by rw [len_data]; exact h0'), at_list s 0 h0']
    by_cases hm : s[0] = 45
    · have hm' : ((s[0].toNat : Int) == 45) = true := by rw [hm]; rfl
      obtain ⟨t, ht⟩ : ∃ t, s.extract 1 s.size = t := ⟨_, rfl⟩
      have hl2 : t.size < 140737488355328 := by rw [← ht, ByteArray.size_extract]; omega
      have el : s.data.toList = [45] ++ t.data.toList := by
        rw [← ht, ext_bot]
        have e := List.drop_eq_getElem_cons (l := s.data.toList) (i := 0) (by rw [len_data]; exact h0')
        rw [at_list s 0 h0', hm] at e
        simpa using e
      rcases slash_at t with ⟨a1, a2⟩ | ⟨p, hp, a2, a3, a4, a5⟩
      · refine refp_m0 s w hl h0' hm' t ht hl2 t.size a2 (Nat.le_refl _) (Nat.le_refl _) t.data.toList [] ?_ ⟨?_, a1, fun h => by cases h⟩
        · rw [ext_top]; exact List.take_of_length_le (by rw [len_data]; omega)
        · simpa using el
      · refine refp_m1 s w hl h0' hm' t ht hl2 p a2 hp a3 _ _ (ext_top t p) (ext_bot t (p + 1)) ⟨?_, a4, fun h => by cases h⟩
        simp only [if_true]
        rw [← a5]; exact el
    · have hm' : ((s[0].toNat : Int) == 45) = false := by
        rw [beq_eq_false_iff_ne]
        intro e
        exact hm (UInt8.toNat_inj.1 (by show s[0].toNat = 45; omega))
      have hd : s.data.toList.head? ≠ some 45 := by
        rw [hh]; intro e; exact hm (by injection e)
      rcases slash_at s with ⟨a1, a2⟩ | ⟨p, hp, a2, a3, a4, a5⟩
      · refine refp_p0 s w hl h0' hm' s.size a2 (Nat.le_refl _) (Nat.le_refl _) s.data.toList [] ?_ ⟨?_, a1, fun _ => hd⟩
        · rw [ext_top]; exact List.take_of_length_le (by rw [len_data]; omega)
        · simp
      · refine refp_p1 s w hl h0' hm' p a2 hp a3 _ _ (ext_top s p) (ext_bot s (p + 1)) ⟨?_, a4, fun _ => hd⟩
        simp only [Bool.false_eq_true, if_false, if_true, List.nil_append]
        exact a5
end Go.Proofs.YtpmlfchbihoflaaDoor
