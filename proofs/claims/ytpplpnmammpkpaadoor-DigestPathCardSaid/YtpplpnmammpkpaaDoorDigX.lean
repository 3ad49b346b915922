/-
  Plain facts of the laws: an index out of any int, roots and paths of a leaf.
-/
import Derived.Test.YtpplpnmammpkpaaDoorDigW
namespace Go.Proofs.YtpplpnmammpkpaaDoor
open Go.RowKit Go.Sort
open Go.RowKit (Below)
set_option linter.unusedVariables false

theorem tmod_bd (z : Int) (n : Nat) (hp : 0 < n) : -(n : Int) < z.tmod n ∧ z.tmod n < n := by
  have h1 := Int.tmod_lt_of_pos z (show (0 : Int) < n by omega)
  have h2 := Int.tmod_lt_of_pos (-z) (show (0 : Int) < n by omega)
  rw [Int.neg_tmod] at h2
  omega
/-- An index out of any int. -/
theorem ix_ex (z : Int) (n : Nat) (hp : 0 < n) (hf : n ≤ 100000) : ∃ j : Nat, (wrap64 (z.tmod n + n)).tmod n = (j : Int) ∧ j < n := by
  obtain ⟨h1, h2⟩ := tmod_bd z n hp
  rw [IntWalk.wrap64_in _ ⟨by omega, by omega⟩]
  have h3 := tmod_bd (z.tmod n + n) n hp
  have h4 : 0 ≤ (z.tmod n + n).tmod n := Int.tmod_nonneg _ (by omega)
  exact ⟨((z.tmod n + n).tmod n).toNat, by omega, by omega⟩
theorem gd_map (f : Int → Int) {l : List Int} {j : Nat} (h : j < l.length) : gd (l.map f) j = f (gd l j) := by rw [gd_at h, gd_at (by simpa using h)]; simp
/-- A leaf's root and path. -/
structure PF (l : List Int) (j : Nat) (r : Int) (zs : List Int) : Prop where
  root : rtV l = r
  path : ptV l (j : Int) = zs
  e0 : lvE l.length = 0
  e1 : ptE l.length (j : Int) = 0
  ten : zs.length ≤ 10
  chk : chkB r (gd l j) j l.length zs = true
  u : ∀ x ∈ zs, U64 x
  isP : zs = pathL (l.map leafN) j
  isR : r = rootL (l.map leafN)
theorem pf {l : List Int} {j : Nat} (hpos : 0 < l.length) (hfew : l.length ≤ 1024) (hj : j < l.length) : ∃ r zs, PF l j r zs := by
  have e0 : lvE l.length = 0 := lvE_ok.2 ⟨hpos, hfew⟩
  have e1 : ptE l.length (j : Int) = 0 := ptE_ok.2 ⟨hpos, hfew, by omega, by omega⟩
  refine ⟨_, _, ⟨rfl, rfl, e0, e1, ?_, ?_, ?_, ?_, ?_⟩⟩
  · unfold ptV; rw [if_pos e1]; exact pathL_len 10 _ _ (by simp; omega)
  · unfold chkB
    rw [if_pos ⟨by omega, by omega, by omega⟩]
    unfold ptV rtV
    rw [if_pos e1, if_pos e0, ← gd_map leafN hj]
    have := chkW_path l.length (l.map leafN) j (by simp) (by simpa using hj)
    simpa using this
  · unfold ptV; rw [if_pos e1]; exact pathL_u (l.map leafN).length _ _ (Nat.le_refl _) (leaves_u l)
  · unfold ptV; rw [if_pos e1]; rfl
  · unfold rtV; rw [if_pos e0]
end Go.Proofs.YtpplpnmammpkpaaDoor
