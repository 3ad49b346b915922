/-
  Package digest: Path.
-/
import Derived.Test.YtpplpnmammpkpaaDoorDigG
namespace Go.Proofs.YtpplpnmammpkpaaDoor
open Go.RowKit Go.Sort
open Go.RowKit (Below)
set_option linter.unusedVariables false

/-- A list and an error's number. -/
def Gk (k : IntKind) (w : World) (zs : List Int) (er : Int) (e : Ending) (w' : World) : Prop := ∃ A C, e = .returned (.tuple #[.slice A zs.length C, .int .i64 er]) ∧ zs.length ≤ C ∧ C ≤ maxLen ∧ SkF w.heap.size k w' A zs ∧ Below w.heap.size w w'
theorem gk_nil {k : IntKind} {w w' : World} {er : Int} (hb : Below w.heap.size w w') : Gk k w [] er (.returned (.tuple #[.slice none 0 0, .int .i64 er])) w' :=
  ⟨none, 0, rfl, Nat.le_refl _, Nat.zero_le _, ⟨Sk.nil _ _ _, fun ad h => by cases h⟩, hb⟩
/-- The path of a leaf, and its error. -/
def ptE (n : Nat) (i : Int) : Int := if lvE n = 0 then (if 0 ≤ i ∧ i < n then 0 else 1) else lvE n
def ptV (xs : List Int) (i : Int) : List Int := if ptE xs.length i = 0 then pathL (xs.map leafN) i.toNat else []
theorem ptE_ok {n : Nat} {i : Int} : ptE n i = 0 ↔ 0 < n ∧ n ≤ 1024 ∧ 0 ≤ i ∧ i < n := by
  unfold ptE
  constructor
  · intro h
    split at h
    · rename_i h1
      have := lvE_ok.1 h1
      split at h
      · omega
      · omega
    · omega
  · rintro ⟨h1, h2, h3, h4⟩
    rw [if_pos (lvE_ok.2 ⟨h1, h2⟩), if_pos ⟨h3, h4⟩]
theorem sib_bes {l : List Int} {i : Nat} (h : i < l.length) : sib l i = if bes i < l.length then [gd l (bes i)] else [] := by
  unfold sib bes
  by_cases ho : i % 2 = 1
  · rw [if_pos ho, if_pos ho, if_pos (by omega)]
  · rw [if_neg ho, if_neg ho]
theorem bes_le (i : Nat) : bes i ≤ i + 1 := by unfold bes; split <;> omega

set_option maxRecDepth 100000 in
set_option maxHeartbeats 1000000 in
theorem path_ok (A : Option Addr) (C : Nat) (xs : List Int) (i : Nat) (w : World) (hpos : 0 < xs.length) (hfew : xs.length ≤ 1024) (hi : i < xs.length) (hu : ∀ x ∈ xs, U64 x) (h : Sk .u64 w A xs) :
    Calls Tryd.prog 17 #[.slice A xs.length C, .int .i64 i] w (Gk .u64 w (pathL (xs.map leafN) i) 0) := by
  obtain ⟨i0, hi0, hz0, hz1, hz2⟩ := info_parts u64_info
  have H := Lib.hid h
  have HU := Lib.hid hu
  have HL := Lib.hid (show Lvl (xs.map leafN) from ⟨by simp; omega, by simp; omega, leaves_u xs⟩)
  have HR := Lib.hid (refuse_any A C xs.length w (by omega))
  rw [lvE_ok.2 ⟨hpos, hfew⟩] at HR
  have HP := Lib.hid (pathL_len 10 (xs.map leafN) i (by simp; omega))
  have HI0 := Lib.hid (show i < (xs.map leafN).length by simpa using hi)
  clear h hu
  have h1 : decide ((i : Int) < 0) = false := by simp
  have h2 : decide ((xs.length : Int) ≤ (i : Int)) = false := by simp; omega
  go_enter Tryd.func17, Tryd.ntmps17
  go_wp2_with fail
  refine (HR.out).mono ?_
  rintro e w' ⟨rfl, rfl⟩
  go_wp2_with fail
  refine (lowest_any A C xs _ (by omega) HU.out H.out).mono ?_
  rintro e w1 ⟨A1, C1, rfl, _, _, ⟨hs1, hf1⟩, hb1⟩
  clear h1 h2 hi
  generalize hl0 : xs.map leafN = l0 at *
  clear hl0
  go_wp2_with fail
  go_loopw [1, 7, 8] (fun a v u wr => ∃ (j : Nat) (ps : List Int) (A' : Option Addr) (C' : Nat) (l : List Int), a = .int .i64 j ∧ u = .slice A' (List.length l) C' ∧ wr.ownsRow w.heap.size 25 1 v ps.length (ps.map (Value.int .u64)) ∧ Hid (ps ++ pathL l j = pathL l0 i ∧ Lvl l ∧ j < l.length ∧ Sk .u64 wr A' l ∧ ∀ b o, A' = some ⟨b, o, none⟩ → some b ≠ v.ownBlock) ∧ Below w.heap.size w wr) (fun _ _ u _ => lenV u)
  case atStart => exact ⟨i, [], A1, C1, l0, rfl, rfl, World.ownsRow_nil _ _ _ _, ⟨rfl, HL.out, HI0.out, hs1, fun b o _ => by simp [Value.ownBlock]⟩, hb1⟩
  case round =>
    obtain ⟨j, ps, A', C', l, rfl, rfl, hown, HI, hb⟩ := hrel
    have hfewl := HI.out.2.1.few
    have hj := HI.out.2.2.1
    clear hs1 hb1 hf1
    have hps : ps.length ≤ 10 := by have e := congrArg List.length HI.out.1; rw [List.length_append] at e; have := HP.out; omega
    by_cases h1 : 1 < l.length
    · have HS := Lib.hid (sib_bes hj)
      have HPL := Lib.hid (pathL_up j h1)
      have hbe := bes_le j
      go_wp2_with fail
      refine (beside_any j _ (by omega)).mono ?_
      rintro e w' ⟨rfl, rfl⟩
      by_cases hx : bes j < l.length
      · obtain ⟨b, o, rfl, hc⟩ := HI.out.2.2.2.1 (bes j) hx
        have HX := Lib.hid (show sib l j = [gd l (bes j)] by rw [HS.out, if_pos hx])
        have hsq := hb.size
        generalize gd l (bes j) = x at *
        generalize bes j = y at *
        clear hbe
        go_wp2_with (at_builtin; refine wpList_append_own _ rfl (.tmp 36) (.tmp 41) 24 rfl w.heap.size 25 i0 (.int .u64 0) 1 8 Tryd.underlying24 hi0 hz0 hz1 hz2 rfl (by decide) _ _ _ rfl (hown.alloc _) ⟨wr.heap.size, 0, none⟩ 1 1 [.int .u64 x] rfl rfl (new_k _ _ _) one_k (by unfold maxLen; omega) (by omega) (by simp; omega) ?_; intro v2 w2 hown2 hgr2 hz2'; clear hz2'; have hb2 := app_below (hb.alloc hsq _) (by simp; omega) (hown.alloc _) (Nat.le_refl _) hgr2; have hkeep := ((HI.out.2.2.2.1.below ((Below.refl _ _).alloc (Nat.le_refl _) _)).grown hgr2 HI.out.2.2.2.2))
        rw [snoc_k, show ps.length + 1 = (ps ++ [x]).length by simp] at hown2
        have HK := Lib.hid hkeep
        have HN := Lib.hid (show (ps ++ [x]) ++ pathL (up l) (j / 2) = pathL l0 i by rw [List.append_assoc, ← HX.out, ← HPL.out]; exact HI.out.1)
        clear hkeep hgr2 hown hb hc
        refine (above_any _ C' l _ (by omega) HI.out.2.1.u HK.out).mono ?_
        rintro e w3 ⟨A3, C3, rfl, _, _, ⟨hs3, hf3⟩, hb3⟩
        have hown3 := own_below hown2 hb3
        have HM := Lib.hid (show (ps ++ [x]) ++ pathL (up l) (j / 2) = pathL l0 i ∧ Lvl (up l) ∧ j / 2 < (up l).length ∧ Sk .u64 w3 A3 (up l) ∧ ∀ b o, A3 = some ⟨b, o, none⟩ → some b ≠ v2.ownBlock from ⟨HN.out, HI.out.2.1.up, by rw [up_len]; omega, hs3, fun b o e he => by have h5 := hf3 _ e; have h6 := (hown2.lt b he.symm).2; simp at h5; omega⟩)
        have hB := on_below hb2 hb3
        have hm : (up l).length < l.length := by rw [up_len]; omega
        clear hs3 hf3 hb3 hown2 hb2 HI
        go_wp2_with fail
        go_roundw
        case rel => exact ⟨j / 2, ps ++ [x], A3, C3, up l, by go_num, rfl, hown3, HM, hB⟩
        case measure => simpa [lenV] using hm
      · have HX := Lib.hid (show sib l j = [] by rw [HS.out, if_neg hx])
        have HN := Lib.hid (show ps ++ pathL (up l) (j / 2) = pathL l0 i by have := HI.out.1; rw [HPL.out, HX.out, List.nil_append] at this; exact this)
        generalize bes j = y at *
        clear hbe
        go_wp2_with fail
        refine (above_any _ C' l _ (by omega) HI.out.2.1.u HI.out.2.2.2.1).mono ?_
        rintro e w3 ⟨A3, C3, rfl, _, _, ⟨hs3, hf3⟩, hb3⟩
        have hown3 := own_below hown hb3
        have HM := Lib.hid (show ps ++ pathL (up l) (j / 2) = pathL l0 i ∧ Lvl (up l) ∧ j / 2 < (up l).length ∧ Sk .u64 w3 A3 (up l) ∧ ∀ b o, A3 = some ⟨b, o, none⟩ → some b ≠ u7.ownBlock from ⟨HN.out, HI.out.2.1.up, by rw [up_len]; omega, hs3, fun b o e he => by have h5 := hf3 _ e; have h6 := (hown.lt b he.symm).2; simp at h5; omega⟩)
        have hB := on_below hb hb3
        have hm : (up l).length < l.length := by rw [up_len]; omega
        clear hs3 hf3 hb3 hown hb HI
        go_wp2_with fail
        go_roundw
        case rel => exact ⟨j / 2, ps, A3, C3, up l, by go_num, rfl, hown3, HM, hB⟩
        case measure => simpa [lenV] using hm
    · have HN := Lib.hid (show ps = pathL l0 i by have := HI.out.1; rw [pathL_one j h1, List.append_nil] at this; exact this)
      obtain ⟨A5, C5, rfl, q1, q2, hs⟩ := own_sk hown
      have HS := Lib.hid hs
      have HQ := Lib.hid (And.intro q1 q2)
      clear hown q1 q2 hs
      go_wp2_with fail
      go_ret2
      rw [← HN.out]
      exact ⟨A5, C5, rfl, HQ.out.1, HQ.out.2, HS.out, hb⟩

theorem ret_gk {k : IntKind} {w w' : World} {er er' : Int} {zs : List Int} (hz : [] = zs) (he : er = er') (hb : Below w.heap.size w w') : Gk k w zs er' (.returned (.tuple #[.slice none 0 0, .int .i64 er])) w' := by subst hz he; exact gk_nil hb
set_option maxRecDepth 100000 in
theorem path_any (A : Option Addr) (C : Nat) (xs : List Int) (i : Int) (w : World) (hl : xs.length ≤ 9223372036854775807) (hu : ∀ x ∈ xs, U64 x) (h : Sk .u64 w A xs) :
    Calls Tryd.prog 17 #[.slice A xs.length C, .int .i64 i] w (Gk .u64 w (ptV xs i) (ptE xs.length i)) := by
  by_cases hE : ptE xs.length i = 0
  · obtain ⟨h1, h2, h3, h4⟩ := ptE_ok.1 hE
    unfold ptV
    rw [hE, if_pos rfl]
    obtain ⟨j, rfl⟩ := Int.eq_ofNat_of_zero_le h3
    exact path_ok A C xs j w h1 h2 (by omega) hu h
  · have HV := Lib.hid (show [] = ptV xs i by unfold ptV; rw [if_neg hE])
    have HR := Lib.hid (refuse_any A C xs.length w (by omega))
    by_cases h0 : lvE xs.length = 0
    · have HE := Lib.hid (show (1 : Int) = ptE xs.length i by unfold ptE at hE ⊢; rw [if_pos h0] at hE ⊢; split <;> simp_all)
      have hx : i < 0 ∨ (xs.length : Int) ≤ i := by
        have := lvE_ok.1 h0
        apply Classical.byContradiction
        intro hn
        exact hE (ptE_ok.2 ⟨this.1, this.2, by omega, by omega⟩)
      rw [h0] at HR
      clear hE h0 hu h
      by_cases hneg : i < 0
      · clear hx
        go_enter Tryd.func17, Tryd.ntmps17
        go_wp2_with fail
        refine (HR.out).mono ?_
        rintro e w' ⟨rfl, rfl⟩
        go_wp2_with fail
        go_ret2
        exact ret_gk HV.out HE.out (Below.refl _ _)
      · have hneg' : decide (i < 0) = false := by simpa using hneg
        have hx' : (xs.length : Int) ≤ i := by omega
        clear hx hneg
        go_enter Tryd.func17, Tryd.ntmps17
        go_wp2_with fail
        refine (HR.out).mono ?_
        rintro e w' ⟨rfl, rfl⟩
        go_wp2_with fail
        go_ret2
        exact ret_gk HV.out HE.out (Below.refl _ _)
    · have HE := Lib.hid (show lvE xs.length = ptE xs.length i by unfold ptE; rw [if_neg h0])
      have hne : (lvE xs.length == 0) = false := by rw [beq_eq_false_iff_ne]; exact h0
      have hne2 : (lvE xs.length != 0) = true := by simpa using h0
      generalize lvE xs.length = E at *
      clear h0 hE hu h
      go_enter Tryd.func17, Tryd.ntmps17
      go_wp2_with fail
      refine (HR.out).mono ?_
      rintro e w' ⟨rfl, rfl⟩
      go_wp2_with fail
      go_ret2
      exact ret_gk HV.out HE.out (Below.refl _ _)
end Go.Proofs.YtpplpnmammpkpaaDoor
