/-
  Package span: combine, from round to round; at the end.
-/
import Derived.Test.YtgdgpfpihpofdaaSpnPB
namespace Go.Proofs.Ytgdgpfpihpofdaa
open Go.RowKit Go.Sort Go.Shelf
open Go.RowKit (Below)
set_option linter.unusedVariables false

theorem good_snoc {X : List Int} {pre : List Spn} {c h : Int} (g : Good X (pre ++ [(c, h)])) : Good X pre ∧ c = gd X pre.length ∧ h = gd X (pre.length + 1) := by
  unfold Good at g
  rw [List.length_append, List.length_singleton, prs_succ] at g
  have h1 := List.append_inj' g rfl
  have h2 := h1.2
  injection h2 with h2
  injection h2 with e1 e2
  exact ⟨h1.1, e1, e2⟩
theorem gd_lt {X : List Int} (h : X.Pairwise (· < ·)) {i : Nat} (hi : i + 1 < X.length) : gd X i < gd X (i + 1) := by
  rw [gd_at (by omega), gd_at hi]
  exact List.pairwise_iff_getElem.1 h i (i + 1) (by omega) hi (by omega)
section
variable {op : Bool → Bool → Bool} {xs ys : List Spn} {X : List Int} {n0 p b0 : Nat} {tk : Value} {w0 : World} {pre ra rb za zb zs zs' : List Spn} {v v' : Value} {W W' : World} {c h : Int}
theorem ci_next (hP : Pc op xs ys X) (hX : X.Pairwise (· < ·)) (hN : pre.length < X.length - 1)
    (hga : Good X pre → ∀ m, gd X pre.length ≤ m → hasS ra m = hasS xs m) (hgb : Good X pre → ∀ m, gd X pre.length ≤ m → hasS rb m = hasS ys m)
    (hbd : Good X pre → X ≠ [] → Bd (tkS op xs ys) zs (gd X pre.length)) (haa : ∀ m, c ≤ m → hasS za m = hasS ra m) (hbb : ∀ m, c ≤ m → hasS zb m = hasS rb m) (hzl : zs.length ≤ pre.length)
    (hz : zs' = if op (hasS ra c) (hasS rb c) then ext zs c h else zs) (be : BE n0 p b0 tk w0 za zb zs' v' W W') : CI op xs ys X n0 p b0 tk w0 (pre ++ [(c, h)]) W' := by
  have hl : (pre ++ [(c, h)]).length = pre.length + 1 := by simp
  have hi : pre.length + 1 < X.length := by omega
  have hlt := gd_lt hX hi
  refine ⟨be.fx, ⟨⟨za, be.wa, fun g m hm => ?_⟩, ⟨zb, be.wb, fun g m hm => ?_⟩⟩, ⟨v', zs', be.bx, be.ow, ?_, fun g hne => ?_⟩, be.bl⟩
  · obtain ⟨g1, g2, g3⟩ := good_snoc g
    rw [hl] at hm
    rw [haa m (by omega), hga g1 m (by omega)]
  · obtain ⟨g1, g2, g3⟩ := good_snoc g
    rw [hl] at hm
    rw [hbb m (by omega), hgb g1 m (by omega)]
  · rw [hl, hz]
    split
    · have := ext_len zs c h; omega
    · omega
  · obtain ⟨g1, g2, g3⟩ := good_snoc g
    rw [hl, ← g3]
    have hb := hbd g1 hne
    rw [← g2] at hb hlt
    rw [← g3] at hlt
    obtain ⟨_, hst⟩ := hP.step pre.length hi
    rw [← g2, ← g3] at hst
    have htk : tkS op xs ys c = op (hasS ra c) (hasS rb c) := by
      unfold tkS
      rw [hga g1 c (by omega), hgb g1 c (by omega)]
    have hh : h ≤ 600001 := by rw [g3]; exact (hP.bd _ (getD_mem hi)).2
    rw [hz]
    cases ho : op (hasS ra c) (hasS rb c) with
    | true => exact hb.ext hlt hh fun m h1 h2 => by rw [hst m h1 h2, htk, ho]
    | false => exact hb.skip (by omega) fun m h1 h2 => by rw [hst m h1 h2, htk, ho]
/-- When all pieces have come. -/
theorem ci_done (h0 : op false false = false) (cx : chk (-1) xs = true) (cy : chk (-1) ys = true) (hP : Pc op xs ys X) (hI : Bt op xs ys X n0 p (prs X (X.length - 1)) W) :
    ∃ v, Boxed W (p + 4) 22 v ∧ W.ownsRow n0 39 2 v (cmb op xs ys).length (flatV (cmb op xs ys)) := by
  obtain ⟨v, zs, h1, h2, h3, h4⟩ := hI
  have hz : zs = cmb op xs ys := by
    rw [prs_len] at h3 h4
    by_cases hX : X = []
    · subst hX
      have e : zs = [] := List.eq_nil_of_length_eq_zero (by simpa using h3)
      rw [e]
      exact hP.nil rfl
    · have hl : 0 < X.length := by cases X with | nil => exact absurd rfl hX | cons _ _ => simp
      exact hP.fin zs (X.length - 1) (by omega) (by omega) (h4 (by unfold Good; rw [prs_len]) hX)
  subst hz
  exact ⟨v, h1, h2⟩
end
theorem own_ls {w : World} {base : Nat} {e : TypeId} {v : Value} {zs : List Spn} (h : w.ownsRow base e 2 v zs.length (flatV zs)) : ∃ A C, v = .slice A zs.length C ∧ Ls w A C zs := by
  obtain ⟨A, C, hv, h1, h2, hs⟩ := own_slS h
  refine ⟨A, C, hv, hs, ⟨h1, by unfold maxLen at h2; omega⟩, fun hA => ?_⟩
  rcases h.2 with ⟨h0, _⟩ | ⟨g, cap, cur, h0, _⟩
  · rw [hv] at h0
    injection h0
  · rw [hv, hA] at h0
    injection h0 with h0
    cases h0
end Go.Proofs.Ytgdgpfpihpofdaa
