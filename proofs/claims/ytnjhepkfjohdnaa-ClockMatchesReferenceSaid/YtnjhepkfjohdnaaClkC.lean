/-
  Clocks: by how much the true time may differ (the reference), the true times and the side on which they are (the package).
-/
import Derived.Test.YtnjhepkfjohdnaaClkB
namespace Go.Proofs.Ytnjhepkfjohdnaa
open Go.RowKit Go.Sort
open Go.RowKit (Below)
set_option linter.unusedVariables false

theorem roff_any (s e d r : Int) (h : rds s e d r = true) (w : World) :
    Calls Try.prog 29 #[.agg #[.int .i64 s, .int .i64 e, .int .i64 d], .int .i64 r] w fun e' w' => e' = .returned (.int .i64 (off s e d r)) ∧ Below w.heap.size w w' := by
  obtain ⟨h1, h2⟩ := part_le h
  obtain ⟨hv, hr, ht⟩ := rds_iff.1 h
  obtain ⟨hs, he, hd⟩ := vc_iff.1 hv
  have ht' := tm_iff.1 ht
  clear h hv ht
  go_enter Try.func29, Try.ntmps29
  go_wp2_with fail
  all_goals go_ret
  all_goals exact ⟨ret_int (by unfold off; omega), (Below.refl _ _).alloc (Nat.le_refl _) _⟩

theorem keepc {w w' : World} {p : Addr} {v : Value} (hb : Below w.heap.size w w') (h : w.cell? p = some v) : w'.cell? p = some v := by rw [hb.cell (block_lt h)]; exact h
theorem keepf {w w' : World} {p : Addr} {v : Value} (hb : Below w.heap.size w w') (h : w.cell? p = some v) (hf : w.frozen? p = false) : w'.frozen? p = false := by rw [hb.frozen (block_lt h)]; exact hf
/-- Block g holds four numbers. -/
def Fo (w : World) (g : Nat) (a b c d : Int) : Prop := w.cell? ⟨g, 0, none⟩ = some (.int .i64 a) ∧ w.cell? ⟨g, 1, none⟩ = some (.int .i64 b) ∧ w.cell? ⟨g, 2, none⟩ = some (.int .i64 c) ∧ w.cell? ⟨g, 3, none⟩ = some (.int .i64 d)
theorem Fo.on {w w' : World} {g : Nat} {a b c d : Int} (p : Fo w g a b c d) (hb : Below w.heap.size w w') : Fo w' g a b c d :=
  ⟨by rw [hb.cell (block_lt p.1)]; exact p.1, by rw [hb.cell (block_lt p.2.1)]; exact p.2.1, by rw [hb.cell (block_lt p.2.2.1)]; exact p.2.2.1, by rw [hb.cell (block_lt p.2.2.2)]; exact p.2.2.2⟩
theorem Fo.here (w : World) (a b c d : Int) (t : TypeId) : Fo (w.alloc (.cells #[.int .i64 a, .int .i64 b, .int .i64 c, .int .i64 d] t)) w.heap.size a b c d := ⟨by simp [go_sem], by simp [go_sem], by simp [go_sem], by simp [go_sem]⟩
/-- Block g holds three numbers. -/
def Tr (w : World) (g : Nat) (a b c : Int) : Prop := w.cell? ⟨g, 0, none⟩ = some (.int .i64 a) ∧ w.cell? ⟨g, 1, none⟩ = some (.int .i64 b) ∧ w.cell? ⟨g, 2, none⟩ = some (.int .i64 c)
theorem Tr.on {w w' : World} {g : Nat} {a b c : Int} (p : Tr w g a b c) (hb : Below w.heap.size w w') : Tr w' g a b c :=
  ⟨by rw [hb.cell (block_lt p.1)]; exact p.1, by rw [hb.cell (block_lt p.2.1)]; exact p.2.1, by rw [hb.cell (block_lt p.2.2)]; exact p.2.2⟩
theorem Tr.lt {w : World} {g : Nat} {a b c : Int} (p : Tr w g a b c) : g < w.heap.size := block_lt p.1
theorem Tr.here (w : World) (a b c : Int) (t : TypeId) : Tr (w.alloc (.cells #[.int .i64 a, .int .i64 b, .int .i64 c] t)) w.heap.size a b c := ⟨by simp [go_sem], by simp [go_sem], by simp [go_sem]⟩

/-- What a cell holds. -/
def rdv (w : World) (b o : Nat) : Value := (w.cell? ⟨b, o, none⟩).getD (.int .i64 0)
theorem rdv_of {w : World} {b o : Nat} {u : Value} (h : w.cell? ⟨b, o, none⟩ = some u) : w.cell? ⟨b, o, none⟩ = some (rdv w b o) := by simp [rdv, h]
section
variable {w : World} {b o b' : Nat} {u : Value} {x y : Int}
theorem far2 (ne : b ≠ b') (h : w.cell? ⟨b, o, none⟩ = some u) : ((w.setCell ⟨b', 0, none⟩ (.int .i64 x)).setCell ⟨b', 1, none⟩ (.int .i64 y)).cell? ⟨b, o, none⟩ = some u := by
  rw [World.cell?_setCell_far _ _ _ _ (by simp; omega), World.cell?_setCell_far _ _ _ _ (by simp; omega)]; exact h
theorem near0 (h : w.cell? ⟨b, 0, none⟩ = some (rdv w b 0)) : ((w.setCell ⟨b, 0, none⟩ (.int .i64 x)).setCell ⟨b, 1, none⟩ (.int .i64 y)).cell? ⟨b, 0, none⟩ = some (rdv ((w.setCell ⟨b, 0, none⟩ (.int .i64 x)).setCell ⟨b, 1, none⟩ (.int .i64 y)) b 0) :=
  rdv_of (u := .int .i64 x) (by simp [go_sem, h])
theorem near1 (h : w.cell? ⟨b, 1, none⟩ = some (rdv w b 1)) : ((w.setCell ⟨b, 0, none⟩ (.int .i64 x)).setCell ⟨b, 1, none⟩ (.int .i64 y)).cell? ⟨b, 1, none⟩ = some (rdv ((w.setCell ⟨b, 0, none⟩ (.int .i64 x)).setCell ⟨b, 1, none⟩ (.int .i64 y)) b 1) :=
  rdv_of (u := .int .i64 y) (by simp [go_sem, h])
theorem froz2 (h : w.frozen? ⟨b, o, none⟩ = false) : ((w.setCell ⟨b', 0, none⟩ (.int .i64 x)).setCell ⟨b', 1, none⟩ (.int .i64 y)).frozen? ⟨b, o, none⟩ = false := by rw [World.frozen?_setCell, World.frozen?_setCell]; exact h
end
theorem keepr {w w' : World} {b o : Nat} (hb : Below w.heap.size w w') (h : w.cell? ⟨b, o, none⟩ = some (rdv w b o)) : w'.cell? ⟨b, o, none⟩ = some (rdv w' b o) := rdv_of (keepc hb h)
theorem keepg {w w' : World} {b o : Nat} (hb : Below w.heap.size w w') (h : w.cell? ⟨b, o, none⟩ = some (rdv w b o)) (hf : w.frozen? ⟨b, o, none⟩ = false) : w'.frozen? ⟨b, o, none⟩ = false := keepf hb h hf
/-- A face and an empty span, newly made. -/
def Tw (w W : World) (s e d r : Int) : Prop := W.cell? ⟨w.heap.size, 0, none⟩ = some (.int .i64 s) ∧ W.cell? ⟨w.heap.size, 1, none⟩ = some (.int .i64 e) ∧ W.cell? ⟨w.heap.size, 2, none⟩ = some (.int .i64 d) ∧ W.cell? ⟨w.heap.size, 3, none⟩ = some (.int .i64 r) ∧ W.cell? ⟨w.heap.size + 1, 0, none⟩ = some (rdv W (w.heap.size + 1) 0) ∧ W.cell? ⟨w.heap.size + 1, 1, none⟩ = some (rdv W (w.heap.size + 1) 1) ∧ W.frozen? ⟨w.heap.size + 1, 0, none⟩ = false ∧ W.frozen? ⟨w.heap.size + 1, 1, none⟩ = false ∧ Below w.heap.size w W
theorem Tw.drew {w W : World} {s e d r : Int} (h : Tw w W s e d r) : Tw w W.drew s e d r := ⟨h.1, h.2.1, h.2.2.1, h.2.2.2.1, h.2.2.2.2.1, h.2.2.2.2.2.1, h.2.2.2.2.2.2.1, h.2.2.2.2.2.2.2.1, h.2.2.2.2.2.2.2.2.drew⟩
theorem two_made (w : World) (s e d r : Int) (t t' : TypeId) : ∀ W, W = (w.alloc (.cells #[.int .i64 s, .int .i64 e, .int .i64 d, .int .i64 r] t)).alloc (.cells #[.int .i64 0, .int .i64 0] t') → Tw w W s e d r := by
  rintro W rfl
  exact ⟨by simp [go_sem], by simp [go_sem], by simp [go_sem], by simp [go_sem], rdv_of (u := .int .i64 0) (by simp [go_sem]), rdv_of (u := .int .i64 0) (by simp [go_sem]), by simp [go_sem], by simp [go_sem], ((Below.refl _ _).alloc (Nat.le_refl _) _).alloc (by simp) _⟩
/-- What two stores into a block leave. -/
theorem done2 {v w : World} {b : Nat} {u u' : Value} (x y : Int) (h0 : w.cell? ⟨b, 0, none⟩ = some u) (h1 : w.cell? ⟨b, 1, none⟩ = some u') (hB : Below v.heap.size v w) (hv : v.heap.size ≤ b) :
    ((w.setCell ⟨b, 0, none⟩ (.int .i64 x)).setCell ⟨b, 1, none⟩ (.int .i64 y)).cell? ⟨b, 0, none⟩ = some (.int .i64 x) ∧ ((w.setCell ⟨b, 0, none⟩ (.int .i64 x)).setCell ⟨b, 1, none⟩ (.int .i64 y)).cell? ⟨b, 1, none⟩ = some (.int .i64 y) ∧ Below v.heap.size v ((w.setCell ⟨b, 0, none⟩ (.int .i64 x)).setCell ⟨b, 1, none⟩ (.int .i64 y)) :=
  ⟨by simp [go_sem, h0], by simp [go_sem, h1], Below.setCell (Below.setCell hB hv _) hv _⟩
set_option maxHeartbeats 2000000 in
theorem times_of (s e d r A : Int) (hA : ∀ W, Calls Try.prog 35 #[.agg #[.int .i64 s, .int .i64 e, .int .i64 d, .int .i64 r]] W fun e' w' => e' = .returned (.int .i64 A) ∧ Below W.heap.size W w')
    (hr0 : 0 ≤ r) (hr1 : r ≤ 600000) (ha0 : 0 ≤ A) (ha1 : A ≤ 61001) (w : World) :
    Calls Try.prog 27 #[.agg #[.int .i64 s, .int .i64 e, .int .i64 d, .int .i64 r]] w fun e' w' => e' = .returned (.agg #[.int .i64 (max (r - A) 0), .int .i64 (min (r + A) 600000 + 1)]) ∧ Below w.heap.size w w' := by
  have HA := Lib.hid hA
  clear hA
  have q1' : IntKind.i64.wrap (r - A) = r - A := wrap_in (by omega) (by omega)
  have q2 : IntKind.i64.wrap (r + A) = r + A := wrap_in (by omega) (by omega)
  have q3 : IntKind.i64.wrap (r + A + 1) = r + A + 1 := wrap_in (by omega) (by omega)
  rcases Int.lt_or_le (r - A) 0 with hx | hx <;> rcases Int.lt_or_le 600000 (r + A) with hy | hy
  · omega
  · go_enter Try.func27, Try.ntmps27
    go_wp2_with fail
    have hT := two_made w s e d r 47 25 _ rfl
    generalize (w.alloc (.cells #[.int .i64 s, .int .i64 e, .int .i64 d, .int .i64 r] 47)).alloc (.cells #[.int .i64 0, .int .i64 0] 25) = w0 at *
    obtain ⟨p0, p1, p2, p3, q0, q1, f0, f1, B0⟩ := hT
    obtain ⟨d0, d1, d2, d3, d4, d5, d6, d7, D0⟩ := Tw.drew ⟨p0, p1, p2, p3, q0, q1, f0, f1, B0⟩
    go_region_held3 (fun W => W.cell? ⟨w.heap.size, 0, none⟩ = some (.int .i64 s) ∧ W.cell? ⟨w.heap.size, 1, none⟩ = some (.int .i64 e) ∧ W.cell? ⟨w.heap.size, 2, none⟩ = some (.int .i64 d) ∧ W.cell? ⟨w.heap.size, 3, none⟩ = some (.int .i64 r) ∧ W.cell? ⟨w.heap.size + 1, 0, none⟩ = some (rdv W (w.heap.size + 1) 0) ∧ W.cell? ⟨w.heap.size + 1, 1, none⟩ = some (rdv W (w.heap.size + 1) 1) ∧ W.frozen? ⟨w.heap.size + 1, 0, none⟩ = false ∧ W.frozen? ⟨w.heap.size + 1, 1, none⟩ = false ∧ Below w.heap.size w W)
      (first | assumption | exact ⟨d0, d1, d2, d3, d4, d5, d6, d7, D0⟩ | (go_split_ands; exact ⟨keepc hb (by assumption), keepc hb (by assumption), keepc hb (by assumption), keepc hb (by assumption), keepr hb (by assumption), keepr hb (by assumption), keepg hb (by assumption) (by assumption), keepg hb (by assumption) (by assumption), (on_same (w := w) (by assumption) hb).1⟩) | (go_split_ands; exact ⟨far2 (by omega) (by assumption), far2 (by omega) (by assumption), far2 (by omega) (by assumption), far2 (by omega) (by assumption), near0 (by assumption), near1 (by assumption), froz2 (by assumption), froz2 (by assumption), Below.setCell (Below.setCell (by assumption) (by simp) _) (by simp) _⟩))
      (first | (go_at_call 35; refine (HA.out _).mono ?_; rintro e' w1 ⟨rfl, hb⟩))
    go_wp2
    all_goals obtain ⟨r0, r1, rB⟩ := done2 (v := w) (w := w1) (b := w.heap.size + 1) (0) (r + A + 1) (keepc hb (keepc (by assumption) d4)) (keepc hb (keepc (by assumption) d5)) (on_same (w := w) (on_same (w := w) D0 (by assumption)).1 hb).1 (by simp)
    all_goals exact bodyPost_ret (v := .agg #[.int .i64 (0), .int .i64 (r + A + 1)]) (by simp [results, Try.results27, go_sem, r0, r1]) rfl ⟨by rw [show max (r - A) 0 = 0 by omega, show min (r + A) 600000 + 1 = r + A + 1 by omega], rB⟩
  · go_enter Try.func27, Try.ntmps27
    go_wp2_with fail
    have hT := two_made w s e d r 47 25 _ rfl
    generalize (w.alloc (.cells #[.int .i64 s, .int .i64 e, .int .i64 d, .int .i64 r] 47)).alloc (.cells #[.int .i64 0, .int .i64 0] 25) = w0 at *
    obtain ⟨p0, p1, p2, p3, q0, q1, f0, f1, B0⟩ := hT
    obtain ⟨d0, d1, d2, d3, d4, d5, d6, d7, D0⟩ := Tw.drew ⟨p0, p1, p2, p3, q0, q1, f0, f1, B0⟩
    go_region_held3 (fun W => W.cell? ⟨w.heap.size, 0, none⟩ = some (.int .i64 s) ∧ W.cell? ⟨w.heap.size, 1, none⟩ = some (.int .i64 e) ∧ W.cell? ⟨w.heap.size, 2, none⟩ = some (.int .i64 d) ∧ W.cell? ⟨w.heap.size, 3, none⟩ = some (.int .i64 r) ∧ W.cell? ⟨w.heap.size + 1, 0, none⟩ = some (rdv W (w.heap.size + 1) 0) ∧ W.cell? ⟨w.heap.size + 1, 1, none⟩ = some (rdv W (w.heap.size + 1) 1) ∧ W.frozen? ⟨w.heap.size + 1, 0, none⟩ = false ∧ W.frozen? ⟨w.heap.size + 1, 1, none⟩ = false ∧ Below w.heap.size w W)
      (first | assumption | exact ⟨d0, d1, d2, d3, d4, d5, d6, d7, D0⟩ | (go_split_ands; exact ⟨keepc hb (by assumption), keepc hb (by assumption), keepc hb (by assumption), keepc hb (by assumption), keepr hb (by assumption), keepr hb (by assumption), keepg hb (by assumption) (by assumption), keepg hb (by assumption) (by assumption), (on_same (w := w) (by assumption) hb).1⟩) | (go_split_ands; exact ⟨far2 (by omega) (by assumption), far2 (by omega) (by assumption), far2 (by omega) (by assumption), far2 (by omega) (by assumption), near0 (by assumption), near1 (by assumption), froz2 (by assumption), froz2 (by assumption), Below.setCell (Below.setCell (by assumption) (by simp) _) (by simp) _⟩))
      (first | (go_at_call 35; refine (HA.out _).mono ?_; rintro e' w1 ⟨rfl, hb⟩))
    go_wp2
    all_goals obtain ⟨r0, r1, rB⟩ := done2 (v := w) (w := w1) (b := w.heap.size + 1) (r - A) (IntKind.i64.wrap 600001) (keepc hb (keepc (by assumption) d4)) (keepc hb (keepc (by assumption) d5)) (on_same (w := w) (on_same (w := w) D0 (by assumption)).1 hb).1 (by simp)
    all_goals exact bodyPost_ret (v := .agg #[.int .i64 (r - A), .int .i64 (IntKind.i64.wrap 600001)]) (by simp [results, Try.results27, go_sem, r0, r1]) rfl ⟨by rw [show max (r - A) 0 = r - A by omega, show min (r + A) 600000 + 1 = IntKind.i64.wrap 600001 by rw [show IntKind.i64.wrap 600001 = 600001 by decide]; omega], rB⟩
  · go_enter Try.func27, Try.ntmps27
    go_wp2_with fail
    have hT := two_made w s e d r 47 25 _ rfl
    generalize (w.alloc (.cells #[.int .i64 s, .int .i64 e, .int .i64 d, .int .i64 r] 47)).alloc (.cells #[.int .i64 0, .int .i64 0] 25) = w0 at *
    obtain ⟨p0, p1, p2, p3, q0, q1, f0, f1, B0⟩ := hT
    obtain ⟨d0, d1, d2, d3, d4, d5, d6, d7, D0⟩ := Tw.drew ⟨p0, p1, p2, p3, q0, q1, f0, f1, B0⟩
    go_region_held3 (fun W => W.cell? ⟨w.heap.size, 0, none⟩ = some (.int .i64 s) ∧ W.cell? ⟨w.heap.size, 1, none⟩ = some (.int .i64 e) ∧ W.cell? ⟨w.heap.size, 2, none⟩ = some (.int .i64 d) ∧ W.cell? ⟨w.heap.size, 3, none⟩ = some (.int .i64 r) ∧ W.cell? ⟨w.heap.size + 1, 0, none⟩ = some (rdv W (w.heap.size + 1) 0) ∧ W.cell? ⟨w.heap.size + 1, 1, none⟩ = some (rdv W (w.heap.size + 1) 1) ∧ W.frozen? ⟨w.heap.size + 1, 0, none⟩ = false ∧ W.frozen? ⟨w.heap.size + 1, 1, none⟩ = false ∧ Below w.heap.size w W)
      (first | assumption | exact ⟨d0, d1, d2, d3, d4, d5, d6, d7, D0⟩ | (go_split_ands; exact ⟨keepc hb (by assumption), keepc hb (by assumption), keepc hb (by assumption), keepc hb (by assumption), keepr hb (by assumption), keepr hb (by assumption), keepg hb (by assumption) (by assumption), keepg hb (by assumption) (by assumption), (on_same (w := w) (by assumption) hb).1⟩) | (go_split_ands; exact ⟨far2 (by omega) (by assumption), far2 (by omega) (by assumption), far2 (by omega) (by assumption), far2 (by omega) (by assumption), near0 (by assumption), near1 (by assumption), froz2 (by assumption), froz2 (by assumption), Below.setCell (Below.setCell (by assumption) (by simp) _) (by simp) _⟩))
      (first | (go_at_call 35; refine (HA.out _).mono ?_; rintro e' w1 ⟨rfl, hb⟩))
    go_wp2
    all_goals obtain ⟨r0, r1, rB⟩ := done2 (v := w) (w := w1) (b := w.heap.size + 1) (r - A) (r + A + 1) (keepc hb (keepc (by assumption) d4)) (keepc hb (keepc (by assumption) d5)) (on_same (w := w) (on_same (w := w) D0 (by assumption)).1 hb).1 (by simp)
    all_goals exact bodyPost_ret (v := .agg #[.int .i64 (r - A), .int .i64 (r + A + 1)]) (by simp [results, Try.results27, go_sem, r0, r1]) rfl ⟨by rw [show max (r - A) 0 = r - A by omega, show min (r + A) 600000 + 1 = r + A + 1 by omega], rB⟩
end Go.Proofs.Ytnjhepkfjohdnaa
