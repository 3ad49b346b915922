/-
  Plain facts of the laws: an index out of any int, roots and paths of a leaf.
-/
import Derived.Test.YtpplpnmammpkpaaDoorDigW
namespace Go.Proofs.YtpplpnmammpkpaaDoor
open Go.RowKit Go.Sort
open Go.RowKit (Below)
set_option linter.unusedVariables false

theorem tmod_bd (z : Int) (n : Nat) (hp : 0 < n) : -(n : Int) < z.tmod n ∧ z.tmod n < n := by
  have h1 := Int.tmod_lt_of_pos z (show (0 : Int) < n by omega)
  have h2 := Int.tmod_lt_of_pos (-z) (show (0 : Int) < n by omega)
  rw [Int.neg_tmod] at h2
  omega
/-- An index out of any int. -/
theorem ix_ex (z : Int) (n : Nat) (hp : 0 < n) (hf : n ≤ 100000) : ∃ j : Nat, (wrap64 (z.tmod n + n)).tmod n = (j : Int) ∧ j < n := by
  obtain ⟨h1, h2⟩ := tmod_bd z n hp
  rw [IntWalk.wrap64_in _ ⟨by omega, by omega⟩]
  have h3 := tmod_bd (z.tmod n + n) n hp
  have h4 : 0 ≤ (z.tmod n + n).tmod n := Int.tmod_nonneg _ (by omega)
  exact ⟨((z.tmod n + n).tmod n).toNat, by omega, by omega⟩
theorem gd_map (f : Int → Int) {l : List Int} {j : Nat} (h : j < l.length) : gd (l.map f) j = f (gd l j) := by rw [gd_at h, gd_at (by simpa using h)]; simp
/-- A leaf's root and path. -/
structure PF (l : List Int) (j : Nat) (r : Int) (zs : List Int) : Prop where
  root : rtV l = r
  path : ptV l (j : Int) = zs
  e0 : lvE l.length = 0
  e1 : ptE l.length (j : Int) = 0
  ten : zs.length ≤ 10
  chk : chkB r (gd l j) j l.length zs = true
  u : ∀ x ∈ zs, U64 x
  isP : zs = pathL (l.map leafN) j
  isR : r = rootL (l.map leafN)
theorem pf {l : List Int} {j : Nat} (hpos : 0 < l.length) (hfew : l.length ≤ 1024) (hj : j < l.length) : ∃ r zs, PF l j r zs := by
  have e0 : lvE l.length = 0 := lvE_ok.2 ⟨hpos, hfew⟩
  have e1 : ptE l.length (j : Int) = 0 := ptE_ok.2 ⟨hpos, hfew, by omega, by omega⟩
  refine ⟨_, _, ⟨rfl, rfl, e0, e1, ?_, ?_, ?_, ?_, ?_⟩⟩
  · unfold ptV; rw [if_pos e1]; exact pathL_len 10 _ _ (by simp; omega)
  · unfold chkB
    rw [if_pos ⟨by omega, by omega, by omega⟩]
    unfold ptV rtV
    rw [if_pos e1, if_pos e0, ← gd_map leafN hj]
    have := chkW_path l.length (l.map leafN) j (by simp) (by simpa using hj)
    simpa using this
  · unfold ptV; rw [if_pos e1]; exact pathL_u (l.map leafN).length _ _ (Nat.le_refl _) (leaves_u l)
  · unfold ptV; rw [if_pos e1]; rfl
  · unfold rtV; rw [if_pos e0]

theorem root_n (A : Option Addr) (C n : Nat) (xs : List Int) (hn : xs.length = n) (v E : Int) (hv : rtV xs = v) (hE : lvE xs.length = E) (w : World) (hl : xs.length ≤ 9223372036854775807) (hu : ∀ x ∈ xs, U64 x) (h : Sk .u64 w A xs) :
    Calls Tryd.prog 15 #[.slice A n C] w fun e w' => e = .returned (.tuple #[.int .u64 v, .int .i64 E]) ∧ Below w.heap.size w w' := by subst hn; exact root_is A C xs v E hv hE w hl hu h
theorem sk_dropk {k : IntKind} {w : World} {b o m C : Nat} {xs : List Int} (h : Sk k w (some ⟨b, o, none⟩) xs) (hC : xs.length ≤ C) : Sk k w (if C = m then some ⟨b, o, none⟩ else some ⟨b, o + m, none⟩) (xs.drop m) := by
  intro j hj
  rw [List.length_drop] at hj
  rw [if_neg (by omega)]
  exact ⟨b, o + m, rfl, by rw [gd_drop, Nat.add_assoc]; exact sk_here h (by omega)⟩
theorem sk_dropn {k : IntKind} {w : World} {b o : Nat} {xs : List Int} (h : Sk k w (some ⟨b, o, none⟩) xs) (m : Nat) : Sk k w (some ⟨b, o + m, none⟩) (xs.drop m) := by
  intro j hj
  rw [List.length_drop] at hj
  exact ⟨b, o + m, rfl, by rw [gd_drop, Nat.add_assoc]; exact sk_here h (by omega)⟩
theorem rt_one (x : Int) : rtV [x] = dig (byB 0 [x]) := by
  unfold rtV
  rw [if_pos (lvE_ok.2 ⟨by simp, by simp⟩), rootL_one (by simp), byB_one]
  rw [List.map_cons, gd_zero]
  exact (show dig (0 :: be8 x) = leafN x from rfl).symm
/-- The two parts of a tree. -/
structure TF (l : List Int) (k : Nat) (r a b : Int) : Prop where
  ta : rtV (l.take k) = a
  tb : rtV (l.drop k) = b
  ea : lvE (l.take k).length = 0
  eb : lvE (l.drop k).length = 0
  la : (l.take k).length = k
  lb : (l.drop k).length = l.length - k
  sum : dig (byB 1 [a, b]) = r
  ua : U64 a
  ub : U64 b
theorem rtV_u (l : List Int) : U64 (rtV l) := by
  unfold rtV
  split
  · rename_i h
    have hp := lvE_ok.1 h
    have : ∀ (n : Nat) (l : List Int), l.length ≤ n → (∀ x ∈ l, U64 x) → U64 (rootL l) := by
      intro n
      induction n with
      | zero => intro l h hu; rw [rootL_one (by omega)]; exact gd_u hu 0
      | succ n ih =>
        intro l h hu
        by_cases h1 : 1 < l.length
        · rw [rootL_up h1]; exact ih _ (by rw [up_len]; omega) (up_u hu)
        · rw [rootL_one h1]; exact gd_u hu 0
    exact this _ _ (Nat.le_refl _) (leaves_u l)
  · constructor <;> decide
theorem tf {l : List Int} {k e : Nat} (hk : k = 2 ^ e) (h1 : k < l.length) (h2 : l.length ≤ 2 * k) (hf : l.length ≤ 1024) : TF l k (rtV l) (rtV (l.take k)) (rtV (l.drop k)) := by
  have hp : 0 < k := by rw [hk]; exact Nat.pow_pos (by omega)
  have hla : (l.take k).length = k := by rw [List.length_take]; omega
  have hlb : (l.drop k).length = l.length - k := List.length_drop
  have ea : lvE (l.take k).length = 0 := lvE_ok.2 ⟨by omega, by omega⟩
  have eb : lvE (l.drop k).length = 0 := lvE_ok.2 ⟨by omega, by omega⟩
  refine ⟨rfl, rfl, ea, eb, hla, hlb, ?_, rtV_u _, rtV_u _⟩
  rw [byB_two]
  show pairN _ _ = _
  unfold rtV
  rw [if_pos ea, if_pos eb, if_pos (lvE_ok.2 ⟨by omega, by omega⟩), List.map_take, List.map_drop]
  subst hk
  exact (rootL_split e (l.map leafN) (by simpa using h1) (by simpa using h2)).symm
end Go.Proofs.YtpplpnmammpkpaaDoor
