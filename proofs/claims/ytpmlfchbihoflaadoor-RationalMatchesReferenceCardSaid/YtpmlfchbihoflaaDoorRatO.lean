/-
  Package rational: Parse returns the number of a text, or ErrForm; a text of a number is parsed to it.
-/
import Derived.Test.YtpmlfchbihoflaaDoorRatCut
namespace Go.Proofs.YtpmlfchbihoflaaDoor
open Go.RowKit Go.Sort
open Go.RowKit (Below)

/-- The number of a text. -/
def prs (l : List UInt8) : Option (Int × Int) :=
  match rdI (Lib.cut l [47]).1 with
  | none => none
  | some n => match (if (Lib.cut l [47]).2.2 = true then rdI (Lib.cut l [47]).2.1 else some 1) with
    | none => none
    | some d => if vld n d = true ∧ (txt n d).data.toList = l then some (n, d) else none

theorem txt_list (n d : Int) : (txt n d).data.toList = if d = 1 then Lib.itoa n else Lib.itoa n ++ 47 :: Lib.itoa d := by
  unfold txt
  split
  · simp [itS]
  · simp [itS, ByteArray.data_append]

theorem prs_iff (l : List UInt8) (n d : Int) : prs l = some (n, d) ↔ vld n d = true ∧ (txt n d).data.toList = l := by
  constructor
  · intro h
    unfold prs at h
    split at h
    · cases h
    · split at h
      · cases h
      · split at h
        · rename_i h1
          injection h with h
          injection h with ha hb
          subst ha; subst hb
          exact h1
        · cases h
  · rintro ⟨hv, hl⟩
    obtain ⟨bn, bd⟩ := vld_bd hv
    have i1 := bn.i64
    have i2 := bd.i64
    have e1 := rdI_itoa n i1.1 i1.2
    have e2 := rdI_itoa d i2.1 i2.2
    have hl' := hl
    rw [txt_list] at hl'
    by_cases h1 : d = 1
    · rw [if_pos h1] at hl'
      unfold prs
      rw [← hl', cut_no _ (itoa_slash n)]
      subst h1
      simp only [e1, Bool.false_eq_true, if_false]
      rw [hl', if_pos ⟨hv, hl⟩]
    · rw [if_neg h1] at hl'
      unfold prs
      rw [← hl', cut_at _ _ (itoa_slash n)]
      simp only [e1, e2, if_true]
      rw [hl', if_pos ⟨hv, hl⟩]

theorem cut_len (l : List UInt8) : (Lib.cut l [47]).1.length ≤ l.length ∧ (Lib.cut l [47]).2.1.length ≤ l.length := by
  unfold Lib.cut
  split
  · simp; omega
  · simp

theorem cuts_of (s : ByteArray) (hs : s.size < 140737488355328) : Cuts s ⟨(Lib.cut s.data.toList [47]).1.toArray⟩ ⟨(Lib.cut s.data.toList [47]).2.1.toArray⟩ (Lib.cut s.data.toList [47]).2.2 := by
  intro W ⟨m, hm⟩
  exact cut_one s hs W

theorem size_list (l : List UInt8) : (⟨l.toArray⟩ : ByteArray).size = l.length := by rw [Array.length_toList]; rfl

theorem read_some (s : ByteArray) (w : World) (hs : St w) (hl : s.size < 140737488355328) (n d : Int) (h : prs s.data.toList = some (n, d)) :
    Calls Tryd.prog 50 #[.string s] w fun e w' => e = .returned (.agg #[.int .i64 n, .int .i64 d]) ∧ Below w.heap.size w w' := by
  have hc := cuts_of s hl
  have ⟨q1, q2⟩ := cut_len s.data.toList
  have hz : s.data.toList.length = s.size := by rw [Array.length_toList]; rfl
  have hx := (prs_iff _ _ _).1 h
  have hq : txt n d = s := str_ext hx.2
  unfold prs at h
  cases h1 : rdI (Lib.cut s.data.toList [47]).1 with
  | none => rw [h1] at h; cases h
  | some n' =>
    rw [h1] at h
    cases hv : (Lib.cut s.data.toList [47]).2.2 with
    | true =>
      rw [hv] at h hc
      simp only [if_true] at h
      cases h2 : rdI (Lib.cut s.data.toList [47]).2.1 with
      | none => rw [h2] at h; cases h
      | some d' =>
        rw [h2] at h
        simp only at h
        split at h
        · injection h with h
          injection h with ha hb
          subst ha; subst hb
          exact read_ok2 s _ _ w hs hc (by rw [size_list]; omega) (by rw [size_list]; omega) n' d' (by simpa using h1) (by simpa using h2) hx.1 hq
        · cases h
    | false =>
      rw [hv] at h hc
      simp only [Bool.false_eq_true, if_false] at h
      split at h
      · injection h with h
        injection h with ha hb
        subst ha; subst hb
        exact read_ok1 s _ _ w hs hc (by rw [size_list]; omega) n' (by simpa using h1) hx.1 hq
      · cases h

theorem read_none (s : ByteArray) (w : World) (hs : St w) (hl : s.size < 140737488355328) (h : prs s.data.toList = none) :
    Calls Tryd.prog 50 #[.string s] w fun e w' => e = raise 8 ∧ Below w.heap.size w w' := by
  have hc := cuts_of s hl
  have ⟨q1, q2⟩ := cut_len s.data.toList
  have hz : s.data.toList.length = s.size := by rw [Array.length_toList]; rfl
  unfold prs at h
  cases h1 : rdI (Lib.cut s.data.toList [47]).1 with
  | none => exact read_top s _ _ w hs _ hc (by rw [size_list]; omega) (by simpa using h1)
  | some n' =>
    rw [h1] at h
    cases hv : (Lib.cut s.data.toList [47]).2.2 with
    | true =>
      rw [hv] at h hc
      simp only [if_true] at h
      cases h2 : rdI (Lib.cut s.data.toList [47]).2.1 with
      | none => exact read_bot s _ _ w hs hc (by rw [size_list]; omega) (by rw [size_list]; omega) n' (by simpa using h1) (by simpa using h2)
      | some d' =>
        rw [h2] at h
        simp only at h
        split at h
        · cases h
        · rename_i hn
          cases hb : vld n' d' with
          | false => exact read_inv2 s _ _ w hs hc (by rw [size_list]; omega) (by rw [size_list]; omega) n' d' (by simpa using h1) (by simpa using h2) hb
          | true => exact read_diff2 s _ _ w hs hc (by rw [size_list]; omega) (by rw [size_list]; omega) n' d' (by simpa using h1) (by simpa using h2) hb (fun e => hn ⟨hb, by rw [e]⟩)
    | false =>
      rw [hv] at h hc
      simp only [Bool.false_eq_true, if_false] at h
      split at h
      · cases h
      · rename_i hn
        cases hb : vld n' 1 with
        | false => exact read_inv1 s _ _ w hs hc (by rw [size_list]; omega) n' (by simpa using h1) hb
        | true => exact read_diff1 s _ _ w hs hc (by rw [size_list]; omega) n' (by simpa using h1) hb (fun e => hn ⟨hb, by rw [e]⟩)

def prsN (l : List UInt8) : Int := match prs l with | some (n, _) => n | none => 0
def prsD (l : List UInt8) : Int := match prs l with | some (_, d) => d | none => 0
def prsE (l : List UInt8) : Int := match prs l with | some _ => 0 | none => 8

set_option maxRecDepth 100000 in
set_option maxHeartbeats 400000 in
theorem parseW_some (x0 : Nat) (s : ByteArray) (w : World) (hs : St w) (hl : s.size < 140737488355328) (g0 : w.cell? ⟨x0, 0, none⟩ = some (.string s)) (n d : Int) (h : prs s.data.toList = some (n, d)) :
    Calls Tryd.prog 49 #[.pointer (some ⟨x0, 0, none⟩)] w fun e w' => e = .returned (.agg #[.int .i64 n, .int .i64 d]) ∧ Below w.heap.size w w' := by
  have l0 := block_lt g0
  have H := Lib.hid h; clear h
  have b0 : Below w.heap.size w (w.alloc (.cells #[.int .i64 0, .int .i64 0] 23)) := (Below.refl _ _).alloc (Nat.le_refl _) _
  have HS := Lib.hid (hs.below b0 hs.sz); clear hs
  go_enter Tryd.func49, Tryd.ntmps49
  go_wp2_with fail
  refine (read_some s _ HS.out hl n d H.out).mono ?_
  rintro e w1 ⟨rfl, hb⟩
  obtain ⟨h1, h2⟩ := bcell hb
  have z0 : w1.cell? ⟨w.heap.size, 0, none⟩ = some (.int .i64 0) := by rw [h1 _ _ (by simp)]; simp [go_sem]
  have z1 : w1.cell? ⟨w.heap.size, 1, none⟩ = some (.int .i64 0) := by rw [h1 _ _ (by simp)]; simp [go_sem]
  have f0 : w1.frozen? ⟨w.heap.size, 0, none⟩ = false := by rw [h2 _ _ (by simp)]; simp [go_sem]
  have f1 : w1.frozen? ⟨w.heap.size, 1, none⟩ = false := by rw [h2 _ _ (by simp)]; simp [go_sem]
  clear h1 h2 g0
  go_wp2_with fail
  refine bodyPost_ret (v := .agg #[.int .i64 n, .int .i64 d]) (by simp [results, Tryd.results49, go_sem, z0, z1]) rfl ⟨rfl, ?_⟩
  exact ((b0.trans (hb.mono (by simp))).setCell (by simp) _).setCell (by simp) _

set_option maxRecDepth 100000 in
set_option maxHeartbeats 400000 in
theorem parseW_none (x0 : Nat) (s : ByteArray) (w : World) (hs : St w) (hl : s.size < 140737488355328) (g0 : w.cell? ⟨x0, 0, none⟩ = some (.string s)) (h : prs s.data.toList = none) :
    Calls Tryd.prog 49 #[.pointer (some ⟨x0, 0, none⟩)] w fun e w' => e = raise 8 ∧ Below w.heap.size w w' := by
  have l0 := block_lt g0
  have H := Lib.hid h; clear h
  have b0 : Below w.heap.size w (w.alloc (.cells #[.int .i64 0, .int .i64 0] 23)) := (Below.refl _ _).alloc (Nat.le_refl _) _
  have HS := Lib.hid (hs.below b0 hs.sz); clear hs
  go_enter Tryd.func49, Tryd.ntmps49
  go_wp2_with fail
  refine (read_none s _ HS.out hl H.out).mono ?_
  rintro e w1 ⟨rfl, hb⟩
  go_wp2_with fail
  exact ⟨rfl, rfl, b0.trans (hb.mono (by simp))⟩

theorem parse_enter (cap : Array Value) (W : World) : (callFunc 49 cap).run Tryd.prog W = .ok (.enter 49 cap) W := by simp [go_sem]

set_option maxRecDepth 100000 in
set_option maxHeartbeats 400000 in
theorem parse_any (s : ByteArray) (w : World) (hs : St w) (hl : s.size < 140737488355328) :
    Calls Tryd.prog 24 #[.string s] w
      fun e w' => e = .returned (.tuple #[.agg #[.int .i64 (prsN s.data.toList), .int .i64 (prsD s.data.toList)], .int .i64 (prsE s.data.toList)]) ∧ Below w.heap.size w w' := by
  have hmf : ∀ (fn : Fn) (first cap : Array Value) (w : World), (Instr.makeFunc fn first cap).run Tryd.prog w = .ok (.func fn first cap) w := fun _ _ _ _ => rfl
  have hat : ∀ W0 : World, Below w.heap.size w W0 → W0.cell? ⟨w.heap.size, 0, none⟩ = some (.string s) →
      Calls Tryd.prog 30 #[.func (.func 49) #[] #[.pointer (some ⟨w.heap.size, 0, none⟩)]] W0
        fun e w' => e = .returned (.tuple #[.agg #[.int .i64 (prsN s.data.toList), .int .i64 (prsD s.data.toList)], .int .i64 (prsE s.data.toList)]) ∧ Below W0.heap.size W0 w' := by
    intro W0 hW0 c1
    cases hp : prs s.data.toList with
    | some p =>
      obtain ⟨n, d⟩ := p
      rw [show prsN s.data.toList = n by simp [prsN, hp], show prsD s.data.toList = d by simp [prsD, hp], show prsE s.data.toList = 0 by simp [prsE, hp]]
      refine attemptR_ok _ _ _ _ _ (parse_enter _) fun W hW => ?_
      exact parseW_some _ s W (hs.below (hW0.trans (hW.mono hW0.size)) hs.sz) hl (by rw [hW.cell (block_lt c1)]; exact c1) n d hp
    | none =>
      rw [show prsN s.data.toList = 0 by simp [prsN, hp], show prsD s.data.toList = 0 by simp [prsD, hp], show prsE s.data.toList = 8 by simp [prsE, hp]]
      refine attemptR_err _ _ _ _ (parse_enter _) fun W hW => ?_
      exact parseW_none _ s W (hs.below (hW0.trans (hW.mono hW0.size)) hs.sz) hl (by rw [hW.cell (block_lt c1)]; exact c1) hp
  have HA := Lib.hid hat; clear hat
  generalize prsN s.data.toList = rN at *
  generalize prsD s.data.toList = rD at *
  generalize prsE s.data.toList = rE at *
  go_enter Tryd.func24, Tryd.ntmps24
  go_wp2_with fail
  refine (HA.out _ (((Below.refl _ _).alloc (Nat.le_refl _) _).alloc (by simp) _) (by simp [go_sem])).mono ?_
  rintro e w1 ⟨rfl, hb⟩
  obtain ⟨h1, h2⟩ := bcell hb
  have z0 : w1.cell? ⟨w.heap.size + 1, 0, none⟩ = some (.int .i64 0) := by rw [h1 _ _ (by simp)]; simp [go_sem]
  have z1 : w1.cell? ⟨w.heap.size + 1, 1, none⟩ = some (.int .i64 0) := by rw [h1 _ _ (by simp)]; simp [go_sem]
  have f0 : w1.frozen? ⟨w.heap.size + 1, 0, none⟩ = false := by rw [h2 _ _ (by simp)]; simp [go_sem]
  have f1 : w1.frozen? ⟨w.heap.size + 1, 1, none⟩ = false := by rw [h2 _ _ (by simp)]; simp [go_sem]
  clear h1 h2
  go_wp2_with fail
  refine bodyPost_ret (v := .tuple #[.agg #[.int .i64 rN, .int .i64 rD], .int .i64 rE]) (by simp [results, Tryd.results24, go_sem, z0, z1]) rfl ⟨rfl, ?_⟩
  exact (((((Below.refl _ _).alloc (Nat.le_refl _) _).alloc (by simp) _).trans (hb.mono (by simp; omega))).setCell (by simp) _).setCell (by simp) _
end Go.Proofs.YtpmlfchbihoflaaDoor
