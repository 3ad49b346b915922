/-
  The reference of package span: merged.
-/
import Derived.Test.YtgdgpfpihpofdaaSpnE
namespace Go.Proofs.Ytgdgpfpihpofdaa
open Go.RowKit Go.Sort
open Go.RowKit (Below)
set_option linter.unusedVariables false

/-- How far two lists in order have been merged. -/
structure Mg (xs ys : List Int) (i k : Nat) (zs : List Int) : Prop where
  perm : zs.Perm (xs.take i ++ ys.take k)
  sort : zs.Pairwise (· ≤ ·)
  lx : ∀ z ∈ zs, ∀ x ∈ xs.drop i, z ≤ x
  ly : ∀ z ∈ zs, ∀ y ∈ ys.drop k, z ≤ y
theorem Mg.start (xs ys : List Int) : Mg xs ys 0 0 [] := ⟨by simp, by simp, by simp, by simp⟩
theorem drop_cons {xs : List Int} {i : Nat} (h : i < xs.length) : xs.drop i = gd xs i :: xs.drop (i + 1) := by rw [List.drop_eq_getElem_cons h, gd_at h]
theorem sorted_drop {xs : List Int} {i : Nat} (hs : xs.Pairwise (· ≤ ·)) (h : i < xs.length) {x : Int} (hx : x ∈ xs.drop i) : gd xs i ≤ x := by
  have h1 := hs.sublist (List.drop_sublist i xs)
  rw [drop_cons h] at h1 hx
  rcases List.mem_cons.1 hx with rfl | hx
  · exact Int.le_refl _
  · exact (List.pairwise_cons.1 h1).1 x hx
theorem takeI {xs : List Int} {k : Nat} (h : k < xs.length) : xs.take (k + 1) = xs.take k ++ [gd xs k] := by rw [List.take_succ_eq_append_getElem h, gd_at h]
theorem snoc_sorted {zs : List Int} {x : Int} (h : zs.Pairwise (· ≤ ·)) (hx : ∀ z ∈ zs, z ≤ x) : (zs ++ [x]).Pairwise (· ≤ ·) := by
  rw [List.pairwise_append]
  exact ⟨h, by simp, fun a ha b hb => by simp at hb; subst hb; exact hx a ha⟩
section
variable {xs ys : List Int} {i k : Nat} {zs : List Int}
theorem Mg.pushb (h : Mg xs ys i k zs) (hx : xs.Pairwise (· ≤ ·)) (hy : ys.Pairwise (· ≤ ·)) (hk : k < ys.length) (hc : i < xs.length → gd ys k ≤ gd xs i) : Mg xs ys i (k + 1) (zs ++ [gd ys k]) := by
  have hd := drop_cons hk
  have mem : ∀ z ∈ zs ++ [gd ys k], z ∈ zs ∨ z = gd ys k := fun z hz => by simpa using hz
  refine ⟨?_, snoc_sorted h.sort fun z hz => h.ly z hz _ (by rw [hd]; simp), fun z hz x hxm => ?_, fun z hz y hym => ?_⟩
  · rw [takeI hk, ← List.append_assoc]
    exact h.perm.append_right _
  · rcases mem z hz with hz | rfl
    · exact h.lx z hz x hxm
    · have hi : i < xs.length := by
        apply Nat.lt_of_not_le
        intro hle
        rw [List.drop_eq_nil_of_le hle] at hxm
        cases hxm
      have h1 := sorted_drop hx hi hxm
      have h2 := hc hi
      omega
  · rcases mem z hz with hz | rfl
    · exact h.ly z hz y (by rw [hd]; simp [hym])
    · exact sorted_drop hy hk (by rw [hd]; simp [hym])
theorem Mg.pusha (h : Mg xs ys i k zs) (hx : xs.Pairwise (· ≤ ·)) (hy : ys.Pairwise (· ≤ ·)) (hi : i < xs.length) (hc : k < ys.length → gd xs i ≤ gd ys k) : Mg xs ys (i + 1) k (zs ++ [gd xs i]) := by
  have hd := drop_cons hi
  have mem : ∀ z ∈ zs ++ [gd xs i], z ∈ zs ∨ z = gd xs i := fun z hz => by simpa using hz
  refine ⟨?_, snoc_sorted h.sort fun z hz => h.lx z hz _ (by rw [hd]; simp), fun z hz x hxm => ?_, fun z hz y hym => ?_⟩
  · rw [takeI hi]
    refine (h.perm.append_right [gd xs i]).trans ?_
    rw [List.append_assoc, List.append_assoc]
    exact (List.perm_append_comm).append_left _
  · rcases mem z hz with hz | rfl
    · exact h.lx z hz x (by rw [hd]; simp [hxm])
    · exact sorted_drop hx hi (by rw [hd]; simp [hxm])
  · rcases mem z hz with hz | rfl
    · exact h.ly z hz y hym
    · have hk : k < ys.length := by
        apply Nat.lt_of_not_le
        intro hle
        rw [List.drop_eq_nil_of_le hle] at hym
        cases hym
      have h1 := sorted_drop hy hk hym
      have h2 := hc hk
      omega
theorem Mg.done (h : Mg xs ys i k zs) (hi : xs.length ≤ i) (hk : ys.length ≤ k) : zs.Perm (xs ++ ys) := by
  have := h.perm
  rwa [List.take_of_length_le hi, List.take_of_length_le hk] at this
end
theorem own_drewN {w : World} {base : Nat} {e : TypeId} {size : Nat} {v : Value} {n : Nat} {xs : List Value} (h : w.ownsRow base e size v n xs) (q : Nat) : (w.drewN q).ownsRow base e size v n xs := h

set_option maxRecDepth 100000 in
set_option maxHeartbeats 1600000 in
theorem rmerged_any (A B : Option Addr) (C D : Nat) (xs ys : List Int) (w : World) (hl : xs.length ≤ 2000) (hl2 : ys.length ≤ 2000) (hx : Sl w A xs) (hy : Sl w B ys) (sx : xs.Pairwise (· ≤ ·)) (sy : ys.Pairwise (· ≤ ·)) :
    Calls Try.prog 42 #[.slice A xs.length C, .slice B ys.length D] w fun e w' => ∃ zs : List Int, zs.Perm (xs ++ ys) ∧ zs.Pairwise (· ≤ ·) ∧ Mk w zs e w' := by
  obtain ⟨i0, hi0, hz0, hz1, hz2⟩ := info_parts (show (Try.prog.info? 3).map (fun i => (i.zero, i.size, i.bytes)) = some (some (.int .i64 0), 1, 8) by kernel_rfl)
  have HX := Lib.hid hx
  have HY := Lib.hid hy
  have SX := Lib.hid sx
  have SY := Lib.hid sy
  clear hx hy sx sy
  go_enter Try.func42, Try.ntmps42
  go_wp2
  go_loopw [5, 6, 7] (fun v kk ii wr => ∃ (i k : Nat) (zs : List Int), i ≤ xs.length ∧ k ≤ ys.length ∧ kk = .int .i64 k ∧ ii = .int .i64 i ∧ Hid (Mg xs ys i k zs) ∧ wr.ownsRow w.heap.size 3 1 v (i + k) (zs.map (Value.int .i64)) ∧ Below w.heap.size w wr) (fun _ _ ii _ => xs.length - (intOf ii).toNat)
  case atStart => exact ⟨0, 0, [], Nat.zero_le _, Nat.zero_le _, rfl, rfl, Mg.start _ _, World.ownsRow_nil _ _ _ _, Below.refl _ _⟩
  case round =>
    obtain ⟨i, k, zs, hi, hk, rfl, rfl, HM, hown, hb⟩ := hrel
    by_cases hil : i < xs.length
    · obtain ⟨ba, oa, rfl, hca⟩ := HX.out i hil
      have hba : ba < w.heap.size := block_lt hca
      have HCA := Lib.hid (fun w1 (h1 : Below w.heap.size w w1) => show w1.cell? ⟨ba, oa + i, none⟩ = some (.int .i64 (gd xs i)) by rw [h1.cell hba]; exact hca)
      clear hca
      go_wp2_with fail
      go_loopw [5, 6] (fun v kk wr => ∃ (k : Nat) (zs : List Int), k ≤ ys.length ∧ kk = .int .i64 k ∧ Hid (Mg xs ys i k zs) ∧ wr.ownsRow w.heap.size 3 1 v (i + k) (zs.map (Value.int .i64)) ∧ Below w.heap.size w wr) (fun _ kk _ => ys.length - (intOf kk).toNat)
      case atStart => exact ⟨k, zs, hk, rfl, HM, hown, hb⟩
      case round =>
        clear hown hb HM hk
        obtain ⟨k, zs, hk, rfl, HM, hown, hb⟩ := hrel
        have hca := HCA.out _ hb
        by_cases hkl : k < ys.length
        · obtain ⟨bb, ob, rfl, hcb0⟩ := HY.out k hkl
          have hbb : bb < w.heap.size := block_lt hcb0
          have HCB := Lib.hid (fun w1 (h1 : Below w.heap.size w w1) => show w1.cell? ⟨bb, ob + k, none⟩ = some (.int .i64 (gd ys k)) by rw [h1.cell hbb]; exact hcb0)
          have hcb := HCB.out _ hb
          have HPB := Lib.hid (fun h => HM.out.pushb SX.out SY.out hkl h)
          have HPA := Lib.hid (fun h => HM.out.pusha SX.out SY.out hil h)
          clear hcb0
          generalize gd xs i = f at *
          generalize gd ys k = u at *
          by_cases hlt : u < f
          · go_wp2_with fail
            go_quiet (fail)
            replace hown := own_drewN hown nq
            replace hb := below_drewN' hb nq
            generalize wr.drewN nq = wq at *
            have hsz := hb.size
            clear hca hcb
            have hcb := HCB.out _ hb
            have HP := Lib.hid (HPB.out fun _ => by omega)
            clear HPA HPB
            go_wp2_with (first
              | (at_builtin; refine wpList_append_own _ rfl (.tmp 29) (.tmp 34) 53 rfl w.heap.size 3 i0 (.int .i64 0) 1 8 Try.underlying53 hi0 hz0 hz1 hz2 rfl (by decide) _ _ _ rfl (hown.alloc _) ⟨wq.heap.size, 0, none⟩ 1 1 [.int .i64 u] rfl rfl (new_one _ _ _) one_cell (by unfold maxLen; omega) (by omega) (by simp; omega) ?_; intro v1 w1 hown1 hgr1 hz1; clear hz1; have hb1 := below_app hb hsz hown (Nat.le_refl _) hgr1))
            rw [map_snoc] at hown1
            go_roundw
            case rel => exact ⟨k + 1, _, by omega, by go_num, HP, hown1, hb1⟩
            case measure => simp [intOf]; omega
          · have hlt' : decide (u < f) = false := by simpa using hlt
            go_wp2_with fail
            go_quiet (fail)
            replace hown := own_drewN hown nq
            replace hb := below_drewN' hb nq
            generalize wr.drewN nq = wq at *
            have hsz := hb.size
            clear hca hcb
            have hca := HCA.out _ hb
            have HP := Lib.hid (HPA.out fun _ => by omega)
            clear HPA HPB
            go_wp2_with (first
              | (at_builtin; refine wpList_append_own _ rfl (.tmp 38) (.tmp 43) 53 rfl w.heap.size 3 i0 (.int .i64 0) 1 8 Try.underlying53 hi0 hz0 hz1 hz2 rfl (by decide) _ _ _ rfl (hown.alloc _) ⟨wq.heap.size, 0, none⟩ 1 1 [.int .i64 f] rfl rfl (new_one _ _ _) one_cell (by unfold maxLen; omega) (by omega) (by simp; omega) ?_; intro v1 w1 hown1 hgr1 hz1; clear hz1; have hb1 := below_app hb hsz hown (Nat.le_refl _) hgr1))
            rw [map_snoc] at hown1
            go_roundw
            case rel => exact ⟨i + 1, k, _, by omega, by omega, rfl, by go_num, HP, by rw [show i + 1 + k = i + k + 1 by omega]; exact hown1, hb1⟩
            case measure => simp [intOf]; omega
        · have HPA := Lib.hid (HM.out.pusha SX.out SY.out hil fun h => absurd h hkl)
          have hkl' : decide ((k : Int) < ys.length) = false := by simp; omega
          generalize gd xs i = f at *
          go_wp2_with fail
          go_quiet (fail)
          replace hown := own_drewN hown nq
          replace hb := below_drewN' hb nq
          generalize wr.drewN nq = wq at *
          have hsz := hb.size
          clear hca
          have hca := HCA.out _ hb
          go_wp2_with (first
            | (at_builtin; refine wpList_append_own _ rfl (.tmp 38) (.tmp 43) 53 rfl w.heap.size 3 i0 (.int .i64 0) 1 8 Try.underlying53 hi0 hz0 hz1 hz2 rfl (by decide) _ _ _ rfl (hown.alloc _) ⟨wq.heap.size, 0, none⟩ 1 1 [.int .i64 f] rfl rfl (new_one _ _ _) one_cell (by unfold maxLen; omega) (by omega) (by simp; omega) ?_; intro v1 w1 hown1 hgr1 hz1; clear hz1; have hb1 := below_app hb hsz hown (Nat.le_refl _) hgr1))
          rw [map_snoc] at hown1
          go_roundw
          case rel => exact ⟨i + 1, k, _, by omega, by omega, rfl, by go_num, HPA, by rw [show i + 1 + k = i + k + 1 by omega]; exact hown1, hb1⟩
          case measure => simp [intOf]; omega
    · go_wp2_with fail
      go_loopw [5, 6] (fun v kk wr => ∃ (k : Nat) (zs : List Int), k ≤ ys.length ∧ kk = .int .i64 k ∧ Hid (Mg xs ys i k zs) ∧ wr.ownsRow w.heap.size 3 1 v (i + k) (zs.map (Value.int .i64)) ∧ Below w.heap.size w wr) (fun _ kk _ => ys.length - (intOf kk).toNat)
      case atStart => exact ⟨k, zs, hk, rfl, HM, hown, hb⟩
      case round =>
        clear hown hb HM hk
        obtain ⟨k, zs, hk, rfl, HM, hown, hb⟩ := hrel
        by_cases hkl : k < ys.length
        · obtain ⟨bb, ob, rfl, hcb0⟩ := HY.out k hkl
          have hbb : bb < w.heap.size := block_lt hcb0
          have hcb : _ := (hb.cell (p := ⟨bb, ob + k, none⟩) hbb).trans hcb0
          have HP := Lib.hid (HM.out.pushb SX.out SY.out hkl fun h => absurd h hil)
          have hsz := hb.size
          clear hcb0
          generalize gd ys k = u at *
          go_wp2_with (first
            | (at_builtin; refine wpList_append_own _ rfl (.tmp 49) (.tmp 54) 53 rfl w.heap.size 3 i0 (.int .i64 0) 1 8 Try.underlying53 hi0 hz0 hz1 hz2 rfl (by decide) _ _ _ rfl (hown.alloc _) ⟨wr.heap.size, 0, none⟩ 1 1 [.int .i64 u] rfl rfl (new_one _ _ _) one_cell (by unfold maxLen; omega) (by omega) (by simp; omega) ?_; intro v1 w1 hown1 hgr1 hz1; clear hz1; have hb1 := below_app hb hsz hown (Nat.le_refl _) hgr1))
          rw [map_snoc] at hown1
          go_roundw
          case rel => exact ⟨k + 1, _, by omega, by go_num, HP, hown1, hb1⟩
          case measure => simp [intOf]; omega
        · have hp := HM.out.done (by omega) (by omega)
          have HP := Lib.hid hp
          have HSo := Lib.hid HM.out.sort
          clear hp
          obtain ⟨A', C', rfl, hs⟩ := own_sl hown
          go_wp2
          go_ret
          exact ⟨zs, HP.out, HSo.out, A', C', rfl, hs, hb⟩
end Go.Proofs.Ytgdgpfpihpofdaa
