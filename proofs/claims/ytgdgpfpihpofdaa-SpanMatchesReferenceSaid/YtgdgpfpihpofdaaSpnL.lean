/-
  slices.Concat of two lists of spans.
-/
import Derived.Test.YtgdgpfpihpofdaaSpnK
namespace Go.Proofs.Ytgdgpfpihpofdaa
open Go.RowKit Go.Sort
open Go.RowKit (Below)
set_option linter.unusedVariables false

theorem add_pl (b o i : Nat) : (⟨b, o, none⟩ : Addr).add i = ⟨b, o + i, none⟩ := by unfold Addr.add; split <;> simp_all
/-- A slice of spans that can be read and walked. -/
structure Ls (w : World) (A : Option Addr) (C : Nat) (xs : List Spn) : Prop where
  sl : SlS w A xs
  cap : xs.length ≤ C ∧ C ≤ 9223372036854775807
  nil : A = none → C = 0
theorem Ls.below {w w' : World} {A : Option Addr} {C : Nat} {xs : List Spn} (h : Ls w A C xs) (hb : Below w.heap.size w w') : Ls w' A C xs := ⟨h.sl.below hb, h.cap, h.nil⟩
/-- A slice is nil, or its cells are there. -/
theorem Ls.cases {w : World} {A : Option Addr} {C : Nat} {xs : List Spn} (h : Ls w A C xs) : (A = none ∧ xs = [] ∧ C = 0) ∨ ∃ a, A = some a ∧ ∀ w', Below w.heap.size w w' → ∀ j u, (flatV xs)[j]? = some u → w'.cell? (a.add j) = some u := by
  cases A with
  | none =>
    refine .inl ⟨rfl, ?_, h.nil rfl⟩
    cases xs with
    | nil => rfl
    | cons s r => obtain ⟨b, o, e, _⟩ := h.sl 0 (by simp); cases e
  | some a =>
    refine .inr ⟨a, rfl, fun w' hb j u hj => ?_⟩
    have hlt : j < xs.length * 2 := by rw [← flatV_len]; exact (List.getElem?_eq_some_iff.1 hj).1
    have hk : j / 2 < xs.length := by omega
    obtain ⟨b, o, e, hc, hd⟩ := h.sl (j / 2) hk
    injection e with e
    subst e
    obtain ⟨f1, f2⟩ := flatV_at hk
    rw [← hb.cell (block_lt hc)] at hc
    rw [← hb.cell (block_lt hd)] at hd
    rcases Nat.mod_two_eq_zero_or_one j with hm | hm
    · have e : j / 2 * 2 = j := by omega
      rw [e] at f1 hc
      rw [f1] at hj
      injection hj with hj
      subst hj
      rw [add_pl]
      exact hc
    · have e : j / 2 * 2 + 1 = j := by omega
      rw [e] at f2
      rw [f2] at hj
      injection hj with hj
      subst hj
      rw [add_pl, ← hd, show o + j = o + j / 2 * 2 + 1 by omega]
theorem flat_one (xs : List Spn) : ∀ u ∈ flatV xs, u.oneCell' = true := by
  intro u hu
  unfold flatV at hu
  obtain ⟨s, _, hs⟩ := List.mem_flatMap.1 hu
  simp at hs
  rcases hs with rfl | rfl <;> rfl

theorem below_own {B : Nat} {w wr w1 : World} {base : Nat} {e : TypeId} {size : Nat} {v : Value} {n : Nat} {xs : List Value} (hb : Below B w wr) (hB : B ≤ wr.heap.size) (hown : wr.ownsRow base e size v n xs) (hbase : B ≤ base) (hg : wr.grownBy w1 v.ownBlock) : Below B w w1 :=
  hb.grown hg hB fun k hk => by have := (hown.lt k hk).1; omega
set_option maxRecDepth 100000 in
set_option maxHeartbeats 1600000 in
theorem concat_any (g : Nat) (A B : Option Addr) (C D : Nat) (xs ys : List Spn) (w : World) (hl : xs.length ≤ 1000) (hl2 : ys.length ≤ 1000)
    (hg0 : w.cell? ⟨g, 0, none⟩ = some (.slice A xs.length C)) (hg1 : w.cell? ⟨g, 1, none⟩ = some (.slice B ys.length D)) (hx : Ls w A C xs) (hy : Ls w B D ys) :
    Calls Try.prog 45 #[.slice (some ⟨g, 0, none⟩) 2 2] w fun e w' => ∃ v, e = .returned v ∧ w'.ownsRow w.heap.size 39 2 v (xs.length + ys.length) (flatV (xs ++ ys)) ∧ Below w.heap.size w w' := by
  obtain ⟨i0, hi0, hz0, hz1, hz2⟩ := info_parts (show (Try.prog.info? 39).map (fun i => (i.zero, i.size, i.bytes)) = some (some (.agg #[.int .i64 0, .int .i64 0]), 2, 16) by kernel_rfl)
  have HX := Lib.hid hx.cases
  have HY := Lib.hid hy.cases
  have hfx : (flatV xs).length = xs.length * 2 := flatV_len xs
  have hfy : (flatV ys).length = ys.length * 2 := flatV_len ys
  have HFX := Lib.hid hfx
  have HFY := Lib.hid hfy
  have HA := Lib.hid (flatV_app xs ys)
  clear hx hy hfx hfy
  generalize xs.length = n at *
  generalize ys.length = m at *
  have hlt : g < w.heap.size := block_lt hg0
  go_enter Try.func45, Try.ntmps45
  go_wp2
  go_loop [3, 11] (fun t i => i = .int .i64 0 ∧ t = .int .i64 0 ∨ i = .int .i64 1 ∧ t = .int .i64 n ∨ i = .int .i64 2 ∧ t = .int .i64 (n + m)) (fun _ i => 2 - (intOf i).toNat)
  case atStart => exact .inl ⟨rfl, rfl⟩
  case round =>
    rcases hrel with ⟨rfl, rfl⟩ | ⟨rfl, rfl⟩ | ⟨rfl, rfl⟩
    · go_wp2
      go_round
      case rel => exact .inr (.inl ⟨rfl, rfl⟩)
      case measure => simp [intOf]
    · go_wp2
      go_round
      case rel => exact .inr (.inr ⟨rfl, rfl⟩)
      case measure => simp [intOf]
    · go_wp2_with fail
      refine (grow_any (n + m) w (by omega)).mono ?_
      rintro e w1 ⟨v, rfl, hown, hb⟩
      have hsz := hb.size
      have hg0' : w1.cell? ⟨g, 0, none⟩ = some (.slice A n C) := by rw [hb.cell hlt]; exact hg0
      have hg1' : w1.cell? ⟨g, 1, none⟩ = some (.slice B m D) := by rw [hb.cell hlt]; exact hg1
      go_wp2
      go_loopw [6, 27] (fun v i wr => (i = .int .i64 0 ∧ wr.ownsRow w.heap.size 39 2 v 0 [] ∨ i = .int .i64 1 ∧ wr.ownsRow w.heap.size 39 2 v n (flatV xs) ∨ i = .int .i64 2 ∧ wr.ownsRow w.heap.size 39 2 v (n + m) (flatV xs ++ flatV ys)) ∧ Below w.heap.size w wr) (fun _ i _ => 2 - (intOf i).toNat)
      case atStart => exact ⟨.inl ⟨rfl, hown⟩, hb⟩
      case round =>
        clear hown hb hg0' hg1'
        obtain ⟨⟨rfl, hown⟩ | ⟨rfl, hown⟩ | ⟨rfl, hown⟩, hb⟩ := hrel
        · have hwb := hb.size
          have hg0' : wr.cell? ⟨g, 0, none⟩ = some (.slice A n C) := by rw [hb.cell hlt]; exact hg0
          rcases HX.out with ⟨rfl, hxe, hC0⟩ | ⟨a, rfl, hcl⟩
          · have HV := Lib.hid (show Value.slice none n C = .slice none 0 0 by
              have hn0 : n = 0 := by have := HFX.out; rw [hxe] at this; simp [flatV] at this; omega
              rw [hn0, hC0])
            have HW := Lib.hid (show n = 0 by have := HFX.out; rw [hxe] at this; simp [flatV] at this; omega)
            have HE := Lib.hid hxe
            clear hxe hC0
            go_wp2_with (first
              | (at_builtin; refine wpList_append_own_none rfl (.tmp 31) (.tmp 32) 22 rfl w.heap.size 39 i0 2 Try.underlying22 hi0 _ _ _ rfl hown (by first | rfl | exact HV.out) ?_))
            go_roundw
            case rel => exact ⟨.inr (.inl ⟨rfl, by rw [HE.out, HW.out]; exact hown⟩), hb⟩
            case measure => simp [intOf]
          · have hnew := hcl wr hb
            clear hcl
            go_wp2_with (first
              | (at_builtin; refine wpList_append_own _ rfl (.tmp 31) (.tmp 32) 22 rfl w.heap.size 39 i0 (.agg #[.int .i64 0, .int .i64 0]) 2 16 Try.underlying22 hi0 hz0 hz1 hz2 rfl (by decide) _ _ _ rfl hown a _ _ (flatV xs) rfl HFX.out hnew (flat_one _) (by unfold maxLen; omega) (by omega) (by omega) ?_; intro v1 w2 hown1 hgr1 hzz; clear hzz; have hb1 := below_own hb hwb hown (Nat.le_refl _) hgr1))
            go_roundw
            case rel => exact ⟨.inr (.inl ⟨rfl, by simpa using hown1⟩), hb1⟩
            case measure => simp [intOf]
        · have hwb := hb.size
          have hg1' : wr.cell? ⟨g, 1, none⟩ = some (.slice B m D) := by rw [hb.cell hlt]; exact hg1
          rcases HY.out with ⟨rfl, hxe, hC0⟩ | ⟨a, rfl, hcl⟩
          · have HV := Lib.hid (show Value.slice none m D = .slice none 0 0 by
              have hn0 : m = 0 := by have := HFY.out; rw [hxe] at this; simp [flatV] at this; omega
              rw [hn0, hC0])
            have HW := Lib.hid (show m = 0 by have := HFY.out; rw [hxe] at this; simp [flatV] at this; omega)
            have HE := Lib.hid hxe
            clear hxe hC0
            go_wp2_with (first
              | (at_builtin; refine wpList_append_own_none rfl (.tmp 31) (.tmp 32) 22 rfl w.heap.size 39 i0 2 Try.underlying22 hi0 _ _ _ rfl hown (by first | rfl | exact HV.out) ?_))
            go_roundw
            case rel => exact ⟨.inr (.inr ⟨rfl, by rw [HE.out, HW.out]; simpa [flatV] using hown⟩), hb⟩
            case measure => simp [intOf]
          · have hnew := hcl wr hb
            clear hcl
            go_wp2_with (first
              | (at_builtin; refine wpList_append_own _ rfl (.tmp 31) (.tmp 32) 22 rfl w.heap.size 39 i0 (.agg #[.int .i64 0, .int .i64 0]) 2 16 Try.underlying22 hi0 hz0 hz1 hz2 rfl (by decide) _ _ _ rfl hown a _ _ (flatV ys) rfl HFY.out hnew (flat_one _) (by unfold maxLen; omega) (by omega) (by omega) ?_; intro v1 w2 hown1 hgr1 hzz; clear hzz; have hb1 := below_own hb hwb hown (Nat.le_refl _) hgr1))
            go_roundw
            case rel => exact ⟨.inr (.inr ⟨rfl, by simpa using hown1⟩), hb1⟩
            case measure => simp [intOf]
        · go_wp2
          go_ret
          exact ⟨_, rfl, by rw [HA.out]; exact hown, hb⟩
end Go.Proofs.Ytgdgpfpihpofdaa
