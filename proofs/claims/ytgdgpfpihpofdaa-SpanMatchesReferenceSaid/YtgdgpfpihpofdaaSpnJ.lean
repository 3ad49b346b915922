/-
  Package span: extend.
-/
import Derived.Test.YtgdgpfpihpofdaaSpnGA
import Derived.Test.YtgdgpfpihpofdaaSpnI
namespace Go.Proofs.Ytgdgpfpihpofdaa
open Go.RowKit Go.Sort
open Go.RowKit (Below)
set_option linter.unusedVariables false

/-- A list with a piece more, joined to the last one if they touch. -/
def ext (zs : List Spn) (c h : Int) : List Spn := match zs.getLast? with
  | none => [(c, h)]
  | some s => if s.2 = c then zs.dropLast ++ [(s.1, h)] else zs ++ [(c, h)]
theorem ext_nil (c h : Int) : ext [] c h = [(c, h)] := rfl
theorem ext_yes (o : List Spn) (f c h : Int) : ext (o ++ [(f, c)]) c h = o ++ [(f, h)] := by simp [ext]
theorem ext_no (o : List Spn) (f : Int) {u c : Int} (h : Int) (hn : u ≠ c) : ext (o ++ [(f, u)]) c h = (o ++ [(f, u)]) ++ [(c, h)] := by simp [ext, hn]
theorem ext_len (zs : List Spn) (c h : Int) : (ext zs c h).length ≤ zs.length + 1 := by
  rcases List.eq_nil_or_concat zs with rfl | ⟨o, ⟨f, u⟩, rfl⟩
  · simp [ext_nil]
  · rw [List.concat_eq_append]
    by_cases e : u = c
    · subst e; rw [ext_yes]; simp
    · rw [ext_no _ _ _ e]; simp
theorem Bd.ext {tk : Int → Bool} {zs : List Spn} {c h : Int} (b : Bd tk zs c) (hch : c < h) (hh : h ≤ 600001) (ht : ∀ m, c ≤ m → m < h → tk m = true) : Bd tk (ext zs c h) h := by
  rcases List.eq_nil_or_concat zs with rfl | ⟨o, ⟨f, u⟩, rfl⟩
  · have hl0 : lastU (-1) ([] : List Spn) ≠ c := by have := b.at_; show (-1 : Int) ≠ c; omega
    exact b.push hl0 hch hh ht
  · rw [List.concat_eq_append] at *
    by_cases e : u = c
    · subst e; rw [ext_yes]; exact b.grow hch hh ht
    · rw [ext_no _ _ _ e]; exact b.push (by rw [lastU_snoc]; exact e) hch hh ht
/-- What extend leaves. -/
def Ext (base : Nat) (zs : List Spn) (v : Value) (w : World) (e : Ending) (w' : World) : Prop :=
  ∃ v', e = .returned v' ∧ w'.ownsRow base 39 2 v' zs.length (flatV zs) ∧ w.grownBy w' v.ownBlock

theorem grown_drewN {w wr : World} {row : Option Nat} (h : w.grownBy wr row) (q : Nat) : w.grownBy (wr.drewN q) row := h.trans ⟨rfl, rfl, rfl, Nat.le_refl _, fun _ _ _ => rfl⟩
theorem grown_cell {w wr : World} {row : Option Nat} {g : Nat} (h : w.grownBy wr row) (e : row = some g) (k : Nat) (v : Value) : w.grownBy (wr.setCell ⟨g, k, none⟩ v) row := by
  subst e
  exact h.trans ⟨rfl, rfl, rfl, by simp, fun b _ hne => Below.heap_setCell wr _ v b (by rintro rfl; exact hne rfl)⟩
theorem grown_app {w wr w1 : World} {o : Obj} {row : Option Nat} (h : w.grownBy wr row) (hg : (wr.alloc o).grownBy w1 row) : w.grownBy w1 row := (h.trans (World.grownBy_alloc wr o row)).trans hg
theorem box_cells (w : World) (c h : Int) (t : TypeId) : (w.alloc (.cells #[.int .i64 c, .int .i64 h] t)).cell? ⟨w.heap.size, 0, none⟩ = some (.int .i64 c) ∧ (w.alloc (.cells #[.int .i64 c, .int .i64 h] t)).cell? ⟨w.heap.size, 1, none⟩ = some (.int .i64 h) := ⟨by simp [go_sem], by simp [go_sem]⟩

set_option maxRecDepth 100000 in
set_option maxHeartbeats 1600000 in
theorem extend_any (base : Nat) (zs : List Spn) (c h : Int) (v : Value) (w : World) (hn : zs.length ≤ 100000) (hbase : base ≤ w.heap.size) (hown : w.ownsRow base 39 2 v zs.length (flatV zs)) :
    Calls Try.prog 38 #[v, .agg #[.int .i64 c, .int .i64 h]] w (Ext base (ext zs c h) v w) := by
  obtain ⟨i0, hi0, hz0, hz1, hz2⟩ := info_parts (show (Try.prog.info? 39).map (fun i => (i.zero, i.size, i.bytes)) = some (some (.agg #[.int .i64 0, .int .i64 0]), 2, 16) by kernel_rfl)
  rcases List.eq_nil_or_concat zs with rfl | ⟨o, s, rfl⟩
  · rw [ext_nil]
    obtain ⟨OA, OC, rfl, -⟩ := own_form hown
    replace hown : w.ownsRow base 39 2 (.slice OA 0 OC) 0 (flatV []) := hown
    have hsz := hbase
    go_enter Try.func38, Try.ntmps38
    go_wp2
    obtain ⟨x0, x1⟩ := box_cells w c h 39
    replace hown := hown.alloc (.cells #[.int .i64 c, .int .i64 h] 39)
    have hgr := World.grownBy_alloc w (.cells #[.int .i64 c, .int .i64 h] 39) (Value.slice OA 0 OC).ownBlock
    have hsz : base ≤ (w.alloc (.cells #[.int .i64 c, .int .i64 h] 39)).heap.size := by simp; omega
    generalize w.heap.size = pb at *
    generalize w.alloc (.cells #[.int .i64 c, .int .i64 h] 39) = wq at *
    go_wp2_with fail
    go_quiet (fail)
    replace hown := own_drewN hown nq
    replace hgr := grown_drewN hgr nq
    replace x0 : (wq.drewN nq).cell? ⟨pb, 0, none⟩ = some (.int .i64 c) := x0
    replace x1 : (wq.drewN nq).cell? ⟨pb, 1, none⟩ = some (.int .i64 h) := x1
    replace hsz : base ≤ (wq.drewN nq).heap.size := hsz
    generalize wq.drewN nq = wz at *
    go_wp2_with (first
      | (at_builtin; refine wpList_append_own _ rfl (.tmp 28) (.tmp 30) 22 rfl base 39 i0 (.agg #[.int .i64 0, .int .i64 0]) 2 16 Try.underlying22 hi0 hz0 hz1 hz2 rfl (by decide) _ _ _ rfl (hown.alloc _) ⟨wz.heap.size, 0, none⟩ 1 1 [.int .i64 c, .int .i64 h] rfl rfl (new_two _ _ _ _) two_cell (by unfold maxLen; omega) (by omega) (by simp; omega) ?_; intro v1 w5 hown1 hgr1 hzz; clear hzz; have hgr2 := grown_app hgr hgr1))
    rw [flat_snoc] at hown1
    go_ret
    exact ⟨v1, rfl, by simpa using hown1, hgr2⟩
  · rw [List.concat_eq_append] at *
    obtain ⟨f, u⟩ := s
    have hn' : o.length + 1 ≤ 100000 := by simpa using hn
    replace hown : w.ownsRow base 39 2 v (o.length + 1) (flatV (o ++ [(f, u)])) := by simpa using hown
    obtain ⟨g, cap, rfl, hg, -⟩ := own_last hown
    by_cases huc : u = c
    · have huc' : (u == c) = true := by rw [beq_iff_eq]; exact huc
      have HN := Lib.hid (show ext (o ++ [(f, u)]) c h = o ++ [(f, h)] by subst huc; exact ext_yes _ _ _ _)
      rw [HN.out]
      clear huc hn
      go_enter Try.func38, Try.ntmps38
      go_wp2
      obtain ⟨x0, x1⟩ := box_cells w c h 39
      replace hown := hown.alloc (.cells #[.int .i64 c, .int .i64 h] 39)
      have hgr := World.grownBy_alloc w (.cells #[.int .i64 c, .int .i64 h] 39) (Value.slice (some ⟨g, 0, none⟩) (o.length + 1) cap).ownBlock
      generalize w.heap.size = pb at *
      generalize w.alloc (.cells #[.int .i64 c, .int .i64 h] 39) = wq at *
      obtain ⟨g', cap', he, hg', hcu, hfu, hst⟩ := own_last hown
      have hgg : g = g' := by injection he with e1; injection e1 with e1; injection e1
      subst hgg
      clear he hst hg'
      go_wp2_with fail
      go_quiet (fail)
      obtain ⟨g', cap', he, hg', -, -, hst⟩ := own_last (own_drewN hown nq)
      have hgg : g = g' := by injection he with e1; injection e1 with e1; injection e1
      subst hgg
      have HST := Lib.hid (hst h)
      clear he hst hg'
      replace hgr := grown_cell (grown_drewN hgr nq) rfl (o.length * 2 + 1) (.int .i64 h)
      replace x0 : (wq.drewN nq).cell? ⟨pb, 0, none⟩ = some (.int .i64 c) := x0
      replace x1 : (wq.drewN nq).cell? ⟨pb, 1, none⟩ = some (.int .i64 h) := x1
      replace hcu : (wq.drewN nq).cell? ⟨g, o.length * 2 + 1, none⟩ = some (.int .i64 u) := hcu
      replace hfu : (wq.drewN nq).frozen? ⟨g, o.length * 2 + 1, none⟩ = false := hfu
      have HG := Lib.hid hgr
      clear hgr
      go_wp2
      go_ret
      exact ⟨_, rfl, by simpa using HST.out, HG.out⟩
    · have huc' : (u == c) = false := by rw [beq_eq_false_iff_ne]; exact huc
      have HN := Lib.hid (show ext (o ++ [(f, u)]) c h = (o ++ [(f, u)]) ++ [(c, h)] from ext_no _ _ _ huc)
      rw [HN.out]
      clear huc hn
      go_enter Try.func38, Try.ntmps38
      go_wp2
      obtain ⟨x0, x1⟩ := box_cells w c h 39
      replace hown := hown.alloc (.cells #[.int .i64 c, .int .i64 h] 39)
      have hgr := World.grownBy_alloc w (.cells #[.int .i64 c, .int .i64 h] 39) (Value.slice (some ⟨g, 0, none⟩) (o.length + 1) cap).ownBlock
      have hsz : base ≤ (w.alloc (.cells #[.int .i64 c, .int .i64 h] 39)).heap.size := by simp; omega
      generalize w.heap.size = pb at *
      generalize w.alloc (.cells #[.int .i64 c, .int .i64 h] 39) = wq at *
      obtain ⟨g', cap', he, hg', hcu, hfu, -⟩ := own_last hown
      have hgg : g = g' := by injection he with e1; injection e1 with e1; injection e1
      subst hgg
      clear he hg'
      go_wp2_with fail
      go_quiet (fail)
      replace hown := own_drewN hown nq
      replace hgr := grown_drewN hgr nq
      replace x0 : (wq.drewN nq).cell? ⟨pb, 0, none⟩ = some (.int .i64 c) := x0
      replace x1 : (wq.drewN nq).cell? ⟨pb, 1, none⟩ = some (.int .i64 h) := x1
      replace hsz : base ≤ (wq.drewN nq).heap.size := hsz
      generalize wq.drewN nq = wz at *
      go_wp2_with (first
        | (at_builtin; refine wpList_append_own _ rfl (.tmp 28) (.tmp 30) 22 rfl base 39 i0 (.agg #[.int .i64 0, .int .i64 0]) 2 16 Try.underlying22 hi0 hz0 hz1 hz2 rfl (by decide) _ _ _ rfl (hown.alloc _) ⟨wz.heap.size, 0, none⟩ 1 1 [.int .i64 c, .int .i64 h] rfl rfl (new_two _ _ _ _) two_cell (by unfold maxLen; omega) (by omega) (by simp; omega) ?_; intro v1 w5 hown1 hgr1 hzz; clear hzz; have hgr2 := grown_app hgr hgr1))
      rw [flat_snoc] at hown1
      go_ret
      exact ⟨v1, rfl, by simpa using hown1, hgr2⟩
end Go.Proofs.Ytgdgpfpihpofdaa
