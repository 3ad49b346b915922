/-
  Package digest: node.
-/
import Derived.Test.YtpplpnmammpkpaaDoorDigC
import Derived.Deep.OwnRows
import Derived.Laws.CopyOwn
import Derived.Deep.RegionLaw
namespace Go.Proofs.YtpplpnmammpkpaaDoor
open Go.RowKit Go.Sort
open Go.RowKit (Below)
set_option linter.unusedVariables false

theorem u8_info : (Tryd.prog.info? 5).map (fun i => (i.zero, i.size, i.bytes)) = some (some (.int .u8 0), 1, 1) := by kernel_rfl
theorem u8_one : (Tryd.prog.info? 5).map (·.size) = some 1 := by kernel_rfl
theorem cells_new (w : World) (vs : List Value) (t : TypeId) (j : Nat) (v : Value) (hv : vs[j]? = some v) : (w.alloc (.cells vs.toArray t)).cell? ((⟨w.heap.size, 0, none⟩ : Addr).add j) = some v := by
  have e : (⟨w.heap.size, 0, none⟩ : Addr).add j = ⟨w.heap.size, j, none⟩ := by unfold Addr.add; split <;> simp_all
  rw [e, cell_of_row _ _ _ _ _ _ (heap_alloc_new w _)]
  simpa using hv
theorem sk_row {k : IntKind} {w : World} {g : Nat} {t : TypeId} (xs : List Int) (h : w.heap[g]? = some (.cells (xs.map (Value.int k)).toArray t (0, 0))) : Sk k w (some ⟨g, 0, none⟩) xs := by
  intro j hj
  refine ⟨g, 0, rfl, ?_⟩
  rw [Nat.zero_add, cell_of_row _ _ _ _ _ _ h]
  simp [gd_at hj, hj]
theorem row_lt {w : World} {g : Nat} {o : Obj} (h : w.heap[g]? = some o) : g < w.heap.size := by
  rcases Nat.lt_or_ge g w.heap.size with h' | h'
  · exact h'
  · rw [Array.getElem?_eq_none h'] at h; cases h
theorem mk9 (W : World) : (Instr.makeSlice 22 (.int .i64 9) (.int .i64 9)).run Tryd.prog W = .ok (.slice (some ⟨W.heap.size, 0, none⟩) 9 9) (W.alloc (.cells #[.int .u8 0, .int .u8 0, .int .u8 0, .int .u8 0, .int .u8 0, .int .u8 0, .int .u8 0, .int .u8 0, .int .u8 0] 5)) :=
by
  have h := run_make_row' 22 5 (.int .u8 0) 1 Tryd.underlying22 u8_info rfl .i64 .i64 9 (by omega) (by omega) W
  rw [show madeCells #[Value.int .u8 0] 9 = #[.int .u8 0, .int .u8 0, .int .u8 0, .int .u8 0, .int .u8 0, .int .u8 0, .int .u8 0, .int .u8 0, .int .u8 0] from Array.toList_inj.1 (by rw [toList_madeCells_one]; rfl)] at h
  exact h
theorem mk17 (W : World) : (Instr.makeSlice 22 (.int .i64 17) (.int .i64 17)).run Tryd.prog W = .ok (.slice (some ⟨W.heap.size, 0, none⟩) 17 17) (W.alloc (.cells #[.int .u8 0, .int .u8 0, .int .u8 0, .int .u8 0, .int .u8 0, .int .u8 0, .int .u8 0, .int .u8 0, .int .u8 0, .int .u8 0, .int .u8 0, .int .u8 0, .int .u8 0, .int .u8 0, .int .u8 0, .int .u8 0, .int .u8 0] 5)) :=
by
  have h := run_make_row' 22 5 (.int .u8 0) 1 Tryd.underlying22 u8_info rfl .i64 .i64 17 (by omega) (by omega) W
  rw [show madeCells #[Value.int .u8 0] 17 = #[.int .u8 0, .int .u8 0, .int .u8 0, .int .u8 0, .int .u8 0, .int .u8 0, .int .u8 0, .int .u8 0, .int .u8 0, .int .u8 0, .int .u8 0, .int .u8 0, .int .u8 0, .int .u8 0, .int .u8 0, .int .u8 0, .int .u8 0] from Array.toList_inj.1 (by rw [toList_madeCells_one]; rfl)] at h
  exact h

set_option maxRecDepth 100000 in
set_option maxHeartbeats 1000000 in
theorem node1_any (m a : Int) (A : Option Addr) (C : Nat) (w : World) (ha : U64 a) (hs : Sk .u64 w A [a]) :
    Calls Tryd.prog 34 #[.int .u8 m, .slice A 1 C] w fun e w' => e = .returned (.int .u64 (dig (m :: be8 a))) ∧ Below w.heap.size w w' := by
  obtain ⟨b, o, rfl, hc⟩ := hs 0 (by simp)
  have hc' : w.cell? ⟨b, o, none⟩ = some (.int .u64 a) := hc
  have hbl : b < w.heap.size := block_lt hc'
  clear hc hs
  go_enter Tryd.func34, Tryd.ntmps34
  have mk := mk9
  go_wp2_with fail
  refine wp_loop_rounds 2 ?_
  rw [rounds_succ]
  go_wp2_with fail
  refine (bytesOf_any a ha _).mono ?_
  rintro e w1 ⟨rfl, hb⟩
  unfold arr8
  have hg1 : w1.heap[w.heap.size]? = some (.cells (.int .u8 m :: [.int .u8 0, .int .u8 0, .int .u8 0, .int .u8 0, .int .u8 0, .int .u8 0, .int .u8 0, .int .u8 0]).toArray 5 (0, 0)) := (hb.block _ (by simp)).trans (heap_alloc_new w _)
  have hb1 : Below w.heap.size w w1 := ((Below.refl _ _).alloc (Nat.le_refl _) _).trans (hb.mono (by simp))
  have hsz : w.heap.size < w1.heap.size := by have := hb.size; simp at this; omega
  clear hb
  go_wp2_with fail
  have hg2 : (w1.alloc (.cells ((be8 a).map (Value.int .u8)).toArray 55)).heap[w.heap.size]? = some (.cells (.int .u8 m :: [.int .u8 0, .int .u8 0, .int .u8 0, .int .u8 0, .int .u8 0, .int .u8 0, .int .u8 0, .int .u8 0]).toArray 5 (0, 0)) := (heap_alloc_old w1 _ hsz).trans hg1
  have hb2 : Below w.heap.size w (w1.alloc (.cells ((be8 a).map (Value.int .u8)).toArray 55)) := hb1.alloc (by omega) _
  have hc2 : ∀ j v, ((be8 a).map (Value.int .u8))[j]? = some v → (w1.alloc (.cells ((be8 a).map (Value.int .u8)).toArray 55)).cell? ((⟨w1.heap.size, 0, none⟩ : Addr).add j) = some v := fun j v hv => cells_new w1 _ _ j v hv
  have HG := Lib.hid hg2
  have HB := Lib.hid hb2
  have HC := Lib.hid hc2
  clear hg1 hg2 hb1 hb2 hc2 mk
  have e0 : IntKind.i64.wrap 0 = 0 := by decide
  have e1 : IntKind.i64.wrap 1 = 1 := by decide
  go_region_law (refine step_copy_splice rfl (.tmp 30) (.tmp 31) 22 22 rfl 5 Tryd.underlying22 u8_one (some ⟨w.heap.size, 1, none⟩) (some ⟨w1.heap.size, 0, none⟩) 8 8 8 8 (by simp [Act.eval, Act.put]) (by simp [Act.eval, Act.put]) w.heap.size 1 (.int .u8 m :: [.int .u8 0, .int .u8 0, .int .u8 0, .int .u8 0, .int .u8 0, .int .u8 0, .int .u8 0, .int .u8 0]) 5 HG.out ((be8 a).map (Value.int .u8)) rfl (fun _ => ⟨rfl, _, rfl, HC.out⟩) (Nat.le_refl _) (ones_k .u8 _) w.heap.size w (below_drewN' HB.out 1) (Nat.le_refl _) ?_; intro w4 hg4 hb4)
  have HS := Lib.hid (sk_row (k := .u8) (t := 5) (g := w.heap.size) (w := w4) (m :: be8 a) hg4.out)
  have HB4 := Lib.hid hb4
  clear hg4 hb4 e0 e1
  go_wp2_with fail
  rw [rounds_succ]
  go_wp2_with fail
  refine (sum_any (some ⟨w.heap.size, 0, none⟩) 9 (m :: be8 a) _ (by simp [be8]) HS.out).mono ?_
  rintro e w' ⟨rfl, rfl⟩
  go_wp2_with fail
  go_ret
  exact ⟨rfl, HB4.out⟩

set_option maxRecDepth 100000 in
set_option maxHeartbeats 1000000 in
theorem node2_any (m x y : Int) (A : Option Addr) (C : Nat) (w : World) (hx : U64 x) (hy : U64 y) (hs : Sk .u64 w A [x, y]) :
    Calls Tryd.prog 34 #[.int .u8 m, .slice A 2 C] w fun e w' => e = .returned (.int .u64 (dig (m :: (be8 x ++ be8 y)))) ∧ Below w.heap.size w w' := by
  obtain ⟨b, o, rfl, hc⟩ := hs 0 (by simp)
  have hc' : w.cell? ⟨b, o, none⟩ = some (.int .u64 x) := hc
  have HD := Lib.hid (show w.cell? ⟨b, o + 1, none⟩ = some (.int .u64 y) from sk_here hs (j := 1) (by simp))
  have hbl : b < w.heap.size := block_lt hc'
  clear hc hs
  go_enter Tryd.func34, Tryd.ntmps34
  have mk := mk17
  go_wp2_with fail
  clear mk
  refine wp_loop_rounds 3 ?_
  rw [rounds_succ]
  go_wp2_with fail
  refine (bytesOf_any x hx _).mono ?_
  rintro e w0a ⟨rfl, hb⟩
  unfold arr8
  have hg1 : w0a.heap[w.heap.size]? = some (.cells (.int .u8 m :: [.int .u8 0, .int .u8 0, .int .u8 0, .int .u8 0, .int .u8 0, .int .u8 0, .int .u8 0, .int .u8 0, .int .u8 0, .int .u8 0, .int .u8 0, .int .u8 0, .int .u8 0, .int .u8 0, .int .u8 0, .int .u8 0]).toArray 5 (0, 0)) := (hb.block _ (by simp)).trans (heap_alloc_new w _)
  have hb1 : Below w.heap.size w w0a := ((Below.refl _ _).alloc (Nat.le_refl _) _).trans (hb.mono (by simp))
  have hgt : w.heap.size < (w.alloc (.cells (.int .u8 m :: [.int .u8 0, .int .u8 0, .int .u8 0, .int .u8 0, .int .u8 0, .int .u8 0, .int .u8 0, .int .u8 0, .int .u8 0, .int .u8 0, .int .u8 0, .int .u8 0, .int .u8 0, .int .u8 0, .int .u8 0, .int .u8 0]).toArray 5)).heap.size := by simp
  have hsz : w.heap.size < w0a.heap.size := Nat.lt_of_lt_of_le hgt hb.size
  clear hb hgt
  go_wp2_with fail
  have hg2 : (w0a.alloc (.cells ((be8 x).map (Value.int .u8)).toArray 55)).heap[w.heap.size]? = some (.cells (.int .u8 m :: [.int .u8 0, .int .u8 0, .int .u8 0, .int .u8 0, .int .u8 0, .int .u8 0, .int .u8 0, .int .u8 0, .int .u8 0, .int .u8 0, .int .u8 0, .int .u8 0, .int .u8 0, .int .u8 0, .int .u8 0, .int .u8 0]).toArray 5 (0, 0)) := (heap_alloc_old w0a _ hsz).trans hg1
  have hb2 : Below w.heap.size w (w0a.alloc (.cells ((be8 x).map (Value.int .u8)).toArray 55)) := hb1.alloc (by omega) _
  have hc2 : ∀ j v, ((be8 x).map (Value.int .u8))[j]? = some v → (w0a.alloc (.cells ((be8 x).map (Value.int .u8)).toArray 55)).cell? ((⟨w0a.heap.size, 0, none⟩ : Addr).add j) = some v := fun j v hv => cells_new w0a _ _ j v hv
  have HG := Lib.hid hg2
  have HB := Lib.hid hb2
  have HC := Lib.hid hc2
  clear hg1 hg2 hb1 hb2 hc2
  have e0 : IntKind.i64.wrap 0 = 0 := by decide
  have e1 : IntKind.i64.wrap 1 = 1 := by decide
  go_region_law (refine step_copy_splice rfl (.tmp 30) (.tmp 31) 22 22 rfl 5 Tryd.underlying22 u8_one (some ⟨w.heap.size, 1, none⟩) (some ⟨w0a.heap.size, 0, none⟩) 16 16 8 8 (by simp [Act.eval, Act.put]) (by simp [Act.eval, Act.put]) w.heap.size 1 (.int .u8 m :: [.int .u8 0, .int .u8 0, .int .u8 0, .int .u8 0, .int .u8 0, .int .u8 0, .int .u8 0, .int .u8 0, .int .u8 0, .int .u8 0, .int .u8 0, .int .u8 0, .int .u8 0, .int .u8 0, .int .u8 0, .int .u8 0]) 5 HG.out ((be8 x).map (Value.int .u8)) rfl (fun _ => ⟨rfl, _, rfl, HC.out⟩) (Nat.le_of_ble_eq_true rfl) (ones_k .u8 _) w.heap.size w (below_drewN' HB.out 1) (Nat.le_refl _) ?_; intro w0b hg4 hb4)
  replace HG := Lib.hid (show w0b.heap[w.heap.size]? = some (.cells ((m :: (be8 x)).map (Value.int .u8) ++ ([0, 0, 0, 0, 0, 0, 0, 0] : List Int).map (Value.int .u8)).toArray 5 (0, 0)) from hg4.out)
  replace HB := Lib.hid hb4
  have hgt : w.heap.size < w0b.heap.size := row_lt HG.out
  clear hg4 HC e0 e1 hsz
  have hd : w0b.cell? ⟨b, o + 1, none⟩ = some (.int .u64 y) := by rw [hb4.cell hbl]; exact HD.out
  clear hc'
  clear hb4
  go_wp2_with fail
  rw [rounds_succ]
  go_wp2_with fail
  refine (bytesOf_any y hy _).mono ?_
  rintro e w1a ⟨rfl, hb⟩
  unfold arr8
  have hg1 := (hb.block _ hgt).trans HG.out
  have hb1 := HB.out.trans (hb.mono (Nat.le_of_lt hgt))
  clear HG HB
  have hsz : w.heap.size < w1a.heap.size := Nat.lt_of_lt_of_le hgt hb.size
  clear hb hgt
  go_wp2_with fail
  have hg2 : (w1a.alloc (.cells ((be8 y).map (Value.int .u8)).toArray 55)).heap[w.heap.size]? = some (.cells ((m :: (be8 x)).map (Value.int .u8) ++ ([0, 0, 0, 0, 0, 0, 0, 0] : List Int).map (Value.int .u8)).toArray 5 (0, 0)) := (heap_alloc_old w1a _ hsz).trans hg1
  have hb2 : Below w.heap.size w (w1a.alloc (.cells ((be8 y).map (Value.int .u8)).toArray 55)) := hb1.alloc (by omega) _
  have hc2 : ∀ j v, ((be8 y).map (Value.int .u8))[j]? = some v → (w1a.alloc (.cells ((be8 y).map (Value.int .u8)).toArray 55)).cell? ((⟨w1a.heap.size, 0, none⟩ : Addr).add j) = some v := fun j v hv => cells_new w1a _ _ j v hv
  have HG := Lib.hid hg2
  have HB := Lib.hid hb2
  have HC := Lib.hid hc2
  clear hg1 hg2 hb1 hb2 hc2
  have e0 : IntKind.i64.wrap 8 = 8 := by decide
  have e1 : IntKind.i64.wrap 9 = 9 := by decide
  go_region_law (refine step_copy_splice rfl (.tmp 30) (.tmp 31) 22 22 rfl 5 Tryd.underlying22 u8_one (some ⟨w.heap.size, 9, none⟩) (some ⟨w1a.heap.size, 0, none⟩) 8 8 8 8 (by simp [Act.eval, Act.put]) (by simp [Act.eval, Act.put]) w.heap.size 9 ((m :: (be8 x)).map (Value.int .u8) ++ ([0, 0, 0, 0, 0, 0, 0, 0] : List Int).map (Value.int .u8)) 5 HG.out ((be8 y).map (Value.int .u8)) rfl (fun _ => ⟨rfl, _, rfl, HC.out⟩) (Nat.le_of_ble_eq_true rfl) (ones_k .u8 _) w.heap.size w (below_drewN' HB.out 1) (Nat.le_refl _) ?_; intro w1b hg4 hb4)
  replace HG := Lib.hid (show w1b.heap[w.heap.size]? = some (.cells ((m :: (be8 x ++ be8 y)).map (Value.int .u8)).toArray 5 (0, 0)) from hg4.out)
  replace HB := Lib.hid hb4
  have hgt : w.heap.size < w1b.heap.size := row_lt HG.out
  clear hg4 HC e0 e1 hsz
  clear hb4
  go_wp2_with fail
  rw [rounds_succ]
  go_wp2_with fail
  refine (sum_any (some ⟨w.heap.size, 0, none⟩) 17 (m :: (be8 x ++ be8 y)) _ (by simp [be8]) (sk_row _ HG.out)).mono ?_
  rintro e w' ⟨rfl, rfl⟩
  go_wp2_with fail
  go_ret
  exact ⟨rfl, HB.out⟩
end Go.Proofs.YtpplpnmammpkpaaDoor
