/-
  Package span: the walk that goes forward.
-/
import Derived.Test.YtgdgpfpihpofdaaSpnH
namespace Go.Proofs.Ytgdgpfpihpofdaa
open Go.RowKit Go.Sort
open Go.RowKit (Below)
set_option linter.unusedVariables false

/-- A walk over what is left of a list. -/
def Wk (n0 : Nat) (w : World) (p : Nat) (ys : List Spn) : Prop := ∃ A C q, (∀ b o, A = some ⟨b, o, none⟩ → ys ≠ [] → b < n0) ∧ Boxed w p 45 (.slice A ys.length C) ∧ SlS w A ys ∧ (ys.length ≤ C ∧ C ≤ 9223372036854775807) ∧ chk q ys = true

theorem boxed_ne {w : World} {p : Nat} {t : TypeId} {A : Option Addr} {n C : Nat} {b o : Nat} {x : Int} (h : Boxed w p t (.slice A n C)) (hc : w.cell? ⟨b, o, none⟩ = some (.int .i64 x)) : b ≠ p := by
  rintro rfl
  have h' : w.heap[b]? = _ := h
  unfold World.cell? at hc
  rw [h'] at hc
  simp at hc
  match o, hc with
  | 0, hc => simp at hc
theorem grown_set {w wr : World} {p : Nat} (h : w.grownBy wr (some p)) (v : Value) : w.grownBy (wr.setCell ⟨p, 0, none⟩ v) (some p) :=
  h.trans (grownBy_setCell' wr p v)
theorem slS_grown {w w' : World} {p : Nat} {A : Option Addr} {xs : List Spn} (h : SlS w A xs) (hg : w.grownBy w' (some p)) (hne : ∀ b o, A = some ⟨b, o, none⟩ → xs ≠ [] → b ≠ p) : SlS w' A xs := by
  intro k hk
  obtain ⟨b, o, e, hc, hd⟩ := h k hk
  have hx : xs ≠ [] := by rintro rfl; simp at hk
  have h1 := hg.block b (block_lt hc) (by have := hne b o e hx; simpa using this)
  refine ⟨b, o, e, ?_, ?_⟩
  · rw [World.cell?_of_block (a := ⟨b, o + k * 2, none⟩) h1]; exact hc
  · rw [World.cell?_of_block (a := ⟨b, o + k * 2 + 1, none⟩) h1]; exact hd
theorem slS_ne {w : World} {p : Nat} {t : TypeId} {A A' : Option Addr} {n C : Nat} {xs : List Spn} (h : SlS w A xs) (hb : Boxed w p t (.slice A' n C)) : ∀ b o, A = some ⟨b, o, none⟩ → xs ≠ [] → b ≠ p := by
  rintro b o rfl hx
  have h0 : 0 < xs.length := by cases xs with | nil => exact absurd rfl hx | cons _ _ => simp
  obtain ⟨b', o', e, hc, _⟩ := h 0 h0
  injection e with e
  injection e with e1 e2
  subst e1 e2
  exact boxed_ne hb hc
theorem slS_tail {w : World} {b o : Nat} {s : Spn} {r : List Spn} (h : SlS w (some ⟨b, o, none⟩) (s :: r)) : SlS w (some ⟨b, o + 2, none⟩) r := by
  intro k hk
  obtain ⟨b', o', e, hc, hd⟩ := h (k + 1) (by simp; omega)
  injection e with e
  injection e with e1 e2
  subst e1 e2
  refine ⟨_, _, rfl, ?_, ?_⟩
  · rw [show o + 2 + k * 2 = o + (k + 1) * 2 by omega]; exact hc
  · rw [show o + 2 + k * 2 + 1 = o + (k + 1) * 2 + 1 by omega]; exact hd
theorem has_skip {s : Spn} {r : List Spn} {m m' : Int} (h : s.2 ≤ m) (hm : m ≤ m') : hasS r m' = hasS (s :: r) m' := by
  have : hasS (s :: r) m' = ((decide (s.1 ≤ m') && decide (m' < s.2)) || hasS r m') := rfl
  rw [this, show decide (m' < s.2) = false by simp; omega]
  simp
theorem has_head {s : Spn} {r : List Spn} {q m : Int} (hc : chk q (s :: r) = true) (h : m < s.2) : decide (s.1 ≤ m) = hasS (s :: r) m := by
  obtain ⟨h1, h2, h3, h4⟩ := chk_cons.1 hc
  rw [Bool.eq_iff_iff, decide_eq_true_iff, has_cons]
  constructor
  · intro h5; exact .inl ⟨h5, h⟩
  · rintro (h5 | h5)
    · exact h5.1
    · have := has_gt h4 h5; omega

set_option maxRecDepth 100000 in
set_option maxHeartbeats 1000000 in
theorem has_any (n0 p : Nat) (xs : List Spn) (m : Int) (w : World) (h : Wk n0 w p xs) :
    Calls Try.prog 35 #[.pointer (some ⟨p, 0, none⟩), .int .i64 m] w fun e w' => e = .returned (.bool (hasS xs m)) ∧ w.grownBy w' (some p) ∧ ∃ zs, Wk n0 w' p zs ∧ ∀ m', m ≤ m' → hasS zs m' = hasS xs m' := by
  obtain ⟨A, C, q, hlo, hbx, hs, hC, hc⟩ := h
  go_enter Try.func35, Try.ntmps35
  go_wp2
  go_loopg [8] xs.length (fun g s8 wr => ∃ (A : Option Addr) (C : Nat) (zs : List Spn) (q : Int), zs.length ≤ g ∧ Boxed wr p 45 (.slice A zs.length C) ∧ SlS wr A zs ∧ (zs.length ≤ C ∧ C ≤ 9223372036854775807) ∧ Hid ((chk q zs = true ∧ ∀ m', m ≤ m' → hasS zs m' = hasS xs m') ∧ ∀ b o, A = some ⟨b, o, none⟩ → zs ≠ [] → b < n0) ∧ w.grownBy wr (some p))
  case atStart => exact ⟨A, C, xs, q, Nat.le_refl _, hbx, hs, hC, ⟨⟨hc, fun _ _ => rfl⟩, hlo⟩, World.grownBy.refl _ _⟩
  case round =>
    clear hbx hs hC hc hlo
    obtain ⟨A, C, zs, q, hg, hbx, hs, ⟨hC1, hC2⟩, HI, hgr⟩ := hrel
    have hcell := hbx.cell
    have hfro := hbx.frozen
    cases zs with
    | nil =>
      have HE := Lib.hid (show false = hasS xs m by rw [← HI.out.1.2 m (Int.le_refl _)]; rfl)
      have HP := Lib.hid (show ∃ zs, Wk n0 wr p zs ∧ ∀ m', m ≤ m' → hasS zs m' = hasS xs m' from ⟨[], ⟨A, C, q, HI.out.2, hbx, hs, ⟨hC1, hC2⟩, HI.out.1.1⟩, HI.out.1.2⟩)
      clear HI hs hbx
      go_wp2
      go_ret
      exact ⟨ret_bool HE.out, hgr, HP.out⟩
    | cons s r =>
      obtain ⟨b, o, rfl, hc0, hd0⟩ := hs 0 (by simp)
      have hc1 : wr.cell? ⟨b, o, none⟩ = some (.int .i64 s.1) := hc0
      have hd1 : wr.cell? ⟨b, o + 1, none⟩ = some (.int .i64 s.2) := by simpa [gdS] using hd0
      have hne : b ≠ p := boxed_ne hbx hc1
      obtain ⟨n, hn⟩ : ∃ n, (s :: r).length = n := ⟨_, rfl⟩
      have hn1 : 0 < n := by rw [← hn]; simp
      rw [hn] at hcell hC1 hg
      have HN := Lib.hid (show r.length = n - 1 by rw [← hn]; simp)
      have HS := Lib.hid hs
      have HB := Lib.hid hbx
      clear hc0 hd0 hs hbx
      by_cases c1 : s.2 ≤ m
      · have HK := Lib.hid (show chk s.2 r = true ∧ ∀ m', m ≤ m' → hasS r m' = hasS xs m' from ⟨(chk_cons.1 HI.out.1.1).2.2.2, fun m' h => (has_skip c1 h).trans (HI.out.1.2 m' h)⟩)
        have HLO := Lib.hid (show b < n0 from HI.out.2 b o rfl (by simp))
        have HST := Lib.hid (fun v => show SlS (wr.setCell ⟨p, 0, none⟩ v) (some ⟨b, o + 2, none⟩) r from slS_grown (slS_tail HS.out) (grownBy_setCell' wr p v) (by rintro b' o' e _; injection e with e; injection e with e1; omega))
        clear hn HI
        generalize s.2 = u at *
        generalize s.1 = f at *
        by_cases hC3 : C = 1
        · have hn2 : n = 1 := by omega
          subst hC3 hn2
          have HG := Lib.hid (fun v => show w.grownBy (wr.setCell ⟨p, 0, none⟩ v) (some p) from grown_set hgr v)
          have HBX := Lib.hid (fun v => HB.out.set v)
          have HR := Lib.hid (show r = [] from List.eq_nil_of_length_eq_zero (by have := HN.out; omega))
          go_wp2
          go_roundg 0
          case measure => omega
          case rel => exact ⟨_, _, [], u, Nat.le_refl _, HBX.out _, SlS.nil _ _, ⟨Nat.zero_le _, by omega⟩, ⟨HR.out ▸ HK.out, fun _ _ _ h => absurd rfl h⟩, HG.out _⟩
        · have HG := Lib.hid (fun v => show w.grownBy (wr.setCell ⟨p, 0, none⟩ v) (some p) from grown_set hgr v)
          have HBX := Lib.hid (fun v => HB.out.set v)
          have hcr : n - 1 < gk := by omega
          go_wp2
          go_roundg (n - 1)
          case measure => omega
          case rel => exact ⟨_, _, r, u, Nat.le_of_eq HN.out, by rw [HN.out]; exact HBX.out _, HST.out _, ⟨by rw [HN.out]; omega, by omega⟩, ⟨HK.out, fun b' o' e _ => by injection e with e; injection e with e1; exact e1 ▸ HLO.out⟩, HG.out _⟩
      · have c1' : decide (s.2 ≤ m) = false := by simpa using c1
        have HE := Lib.hid (show decide (s.1 ≤ m) = hasS xs m by rw [← HI.out.1.2 m (Int.le_refl _)]; exact has_head HI.out.1.1 (by omega))
        have HP := Lib.hid (show ∃ zs, Wk n0 wr p zs ∧ ∀ m', m ≤ m' → hasS zs m' = hasS xs m' from ⟨s :: r, ⟨_, C, q, HI.out.2, HB.out, HS.out, ⟨by omega, hC2⟩, HI.out.1.1⟩, HI.out.1.2⟩)
        clear hn HI HB HS
        generalize s.2 = u at *
        generalize s.1 = f at *
        by_cases c2 : f ≤ m
        · go_wp2
          go_ret
          exact ⟨ret_bool (by rw [← HE.out]; simpa using c2), hgr, HP.out⟩
        · have c2' : decide (f ≤ m) = false := by simpa using c2
          go_wp2
          go_ret
          exact ⟨ret_bool (by rw [← HE.out]; simpa using c2), hgr, HP.out⟩
end Go.Proofs.Ytgdgpfpihpofdaa
