/-
  Package rational: read returns the number of a text, or raises ErrForm.
-/
import Derived.Test.YtpmlfchbihoflaaDoorRatL
namespace Go.Proofs.YtpmlfchbihoflaaDoor
open Go.RowKit Go.Sort
open Go.RowKit (Below)

theorem rdI_i64 {l : List UInt8} {v : Int} (h : rdI l = some v) : I64 v := by
  unfold rdI at h
  split at h
  · rename_i v' hv
    injection h with h
    subst h
    unfold Lib.atoiAll at hv
    split at hv
    · cases hv
    · simp only at hv
      split at hv
      · cases hv
      · cases hv
      · split at hv
        · cases hv
        · split at hv
          · cases hv
          · injection hv with hv
            subst hv
            split <;> constructor <;> omega
  · cases h

theorem str_ext {a b : ByteArray} (h : a.data.toList = b.data.toList) : a = b := by
  cases a; cases b
  simp only at h
  congr 1
  exact Array.toList_inj.1 h
theorem str_ne {a b : ByteArray} (h : a ≠ b) : (a.toList == b.toList) = false := by
  rw [beq_eq_false_iff_ne]
  intro e
  rw [ByteArray.toList_eq, ByteArray.toList_eq] at e
  exact h (str_ext e)

/-- What strings.Cut at a slash gives of s. -/
def Cuts (s top bot : ByteArray) (dv : Bool) : Prop := ∀ W : World, (∃ m, W.cell? ⟨0, 0, none⟩ = some (.int .i64 m)) →
  Calls Tryd.prog 58 #[.string s, .string ⟨#[47]⟩] W fun e w' => e = .returned (.tuple #[.string top, .string bot, .bool dv]) ∧ ∃ n, w' = W.drewN n

set_option maxRecDepth 100000 in
set_option maxHeartbeats 800000 in
theorem read_top (s top bot : ByteArray) (w : World) (hs : St w) (dv : Bool) (hc : Cuts s top bot dv) (ht : top.size ≤ 281474976710656) (h1 : rdI top.data.toList = none) :
    Calls Tryd.prog 50 #[.string s] w fun e w' => e = raise 8 ∧ Below w.heap.size w w' := by
  have HS := Lib.hid hs; clear hs
  have b0 : Below w.heap.size w (w.alloc (.cells #[.int .i64 0, .int .i64 0] 23)) := (Below.refl _ _).alloc (Nat.le_refl _) _
  have HC := Lib.hid (hc _ (HS.out.below b0 HS.out.sz).ml); clear hc
  have Hh1 := Lib.hid h1; clear h1
  go_enter Tryd.func50, Tryd.ntmps50
  go_wp2_with fail
  refine HC.out.mono ?_
  rintro e w0 ⟨rfl, k, rfl⟩
  have bk := below_drewN' b0 k
  go_wp2_with fail
  refine (readInt_err top ht Hh1.out _ (HS.out.below bk HS.out.sz)).mono ?_
  rintro e w1 ⟨rfl, hb1⟩
  go_wp2_with fail
  exact ⟨rfl, rfl, bk.trans (hb1.mono (by simp))⟩

set_option maxRecDepth 100000 in
set_option maxHeartbeats 800000 in
theorem read_bot (s top bot : ByteArray) (w : World) (hs : St w) (hc : Cuts s top bot true) (ht : top.size ≤ 281474976710656) (ht2 : bot.size ≤ 281474976710656) (n : Int) (h1 : rdI top.data.toList = some n) (h2 : rdI bot.data.toList = none) :
    Calls Tryd.prog 50 #[.string s] w fun e w' => e = raise 8 ∧ Below w.heap.size w w' := by
  have HS := Lib.hid hs; clear hs
  have b0 : Below w.heap.size w (w.alloc (.cells #[.int .i64 0, .int .i64 0] 23)) := (Below.refl _ _).alloc (Nat.le_refl _) _
  have HC := Lib.hid (hc _ (HS.out.below b0 HS.out.sz).ml); clear hc
  have Hh1 := Lib.hid h1; clear h1
  have Hh2 := Lib.hid h2; clear h2
  go_enter Tryd.func50, Tryd.ntmps50
  go_wp2_with fail
  refine HC.out.mono ?_
  rintro e w0 ⟨rfl, k, rfl⟩
  have bk := below_drewN' b0 k
  go_wp2_with fail
  refine (readInt_ok top n ht Hh1.out _).mono ?_
  rintro e w1 ⟨rfl, hb1⟩
  have b1 : Below w.heap.size w w1 := bk.trans (hb1.mono (by simp))
  have z1 := b1.size
  have z2 : w.heap.size + 1 ≤ w1.heap.size := by have := hb1.size; simpa using this
  obtain ⟨q1, q2⟩ := bcell hb1
  have y0 : w1.cell? ⟨w.heap.size, 0, none⟩ = some (.int .i64 0) := by rw [q1 _ _ (by simp)]; simp [go_sem]
  have y1 : w1.cell? ⟨w.heap.size, 1, none⟩ = some (.int .i64 0) := by rw [q1 _ _ (by simp)]; simp [go_sem]
  have x0 : w1.frozen? ⟨w.heap.size, 0, none⟩ = false := by rw [q2 _ _ (by simp)]; simp [go_sem]
  have x1 : w1.frozen? ⟨w.heap.size, 1, none⟩ = false := by rw [q2 _ _ (by simp)]; simp [go_sem]
  clear q1 q2
  go_wp2_with fail
  refine (readInt_err bot ht2 Hh2.out _ (HS.out.below (b1.alloc z1 _) HS.out.sz)).mono ?_
  rintro e w2 ⟨rfl, hb2⟩
  go_wp2_with fail
  exact ⟨rfl, rfl, (b1.alloc z1 _).trans (hb2.mono (by simp; omega))⟩

set_option maxRecDepth 100000 in
set_option maxHeartbeats 800000 in
theorem read_inv2 (s top bot : ByteArray) (w : World) (hs : St w) (hc : Cuts s top bot true) (ht : top.size ≤ 281474976710656) (ht2 : bot.size ≤ 281474976710656) (n d : Int) (h1 : rdI top.data.toList = some n) (h2 : rdI bot.data.toList = some d) (hv : vld n d = false) :
    Calls Tryd.prog 50 #[.string s] w fun e w' => e = raise 8 ∧ Below w.heap.size w w' := by
  have HS := Lib.hid hs; clear hs
  have b0 : Below w.heap.size w (w.alloc (.cells #[.int .i64 0, .int .i64 0] 23)) := (Below.refl _ _).alloc (Nat.le_refl _) _
  have HC := Lib.hid (hc _ (HS.out.below b0 HS.out.sz).ml); clear hc
  have hi : I64 n ∧ I64 d := ⟨rdI_i64 h1, rdI_i64 h2⟩
  have Hi := Lib.hid hi; clear hi
  have Hh1 := Lib.hid h1; clear h1
  have Hh2 := Lib.hid h2; clear h2
  have Hhv := Lib.hid hv; clear hv
  go_enter Tryd.func50, Tryd.ntmps50
  go_wp2_with fail
  refine HC.out.mono ?_
  rintro e w0 ⟨rfl, k, rfl⟩
  have bk := below_drewN' b0 k
  go_wp2_with fail
  refine (readInt_ok top n ht Hh1.out _).mono ?_
  rintro e w1 ⟨rfl, hb1⟩
  have b1 : Below w.heap.size w w1 := bk.trans (hb1.mono (by simp))
  have z1 := b1.size
  have z2 : w.heap.size + 1 ≤ w1.heap.size := by have := hb1.size; simpa using this
  obtain ⟨q1, q2⟩ := bcell hb1
  have y0 : w1.cell? ⟨w.heap.size, 0, none⟩ = some (.int .i64 0) := by rw [q1 _ _ (by simp)]; simp [go_sem]
  have y1 : w1.cell? ⟨w.heap.size, 1, none⟩ = some (.int .i64 0) := by rw [q1 _ _ (by simp)]; simp [go_sem]
  have x0 : w1.frozen? ⟨w.heap.size, 0, none⟩ = false := by rw [q2 _ _ (by simp)]; simp [go_sem]
  have x1 : w1.frozen? ⟨w.heap.size, 1, none⟩ = false := by rw [q2 _ _ (by simp)]; simp [go_sem]
  clear q1 q2
  go_wp2_with fail
  refine (readInt_ok bot d ht2 Hh2.out _).mono ?_
  rintro e w2 ⟨rfl, hb2⟩
  have b2 : Below w.heap.size w w2 := (b1.alloc z1 _).trans (hb2.mono (by simp; omega))
  obtain ⟨q1, q2⟩ := bcell hb2
  have p0 : w2.cell? ⟨w1.heap.size, 0, none⟩ = some (.int .i64 n) := by rw [q1 _ _ (by simp)]; simp [go_sem]
  have p1 : w2.cell? ⟨w1.heap.size, 1, none⟩ = some (.int .i64 1) := by rw [q1 _ _ (by simp)]; simp [go_sem]
  have o1 : w2.frozen? ⟨w1.heap.size, 1, none⟩ = false := by rw [q2 _ _ (by simp)]; simp [go_sem]
  clear q1 q2
  go_wp2_with fail
  refine (valid_b n d false Hhv.out _ Hi.out.1 Hi.out.2).mono ?_
  rintro e w3 ⟨rfl, hb3⟩
  have z3 := hb2.size
  have b3 : Below w.heap.size w w3 := (b2.setCell z1 _).trans (hb3.mono (by simp at z3 ⊢; omega))
  have c0 : w3.cell? ⟨w1.heap.size, 0, none⟩ = some (.int .i64 n) := by rw [hb3.cell (by simp at z3 ⊢; omega)]; simp [go_sem, p0]
  have c1 : w3.cell? ⟨w1.heap.size, 1, none⟩ = some (.int .i64 d) := by rw [hb3.cell (by simp at z3 ⊢; omega)]; simp [go_sem, p1]
  have g0 : w3.cell? ⟨w.heap.size, 0, none⟩ = some (.int .i64 0) := by rw [hb3.cell (by simp at z3 ⊢; omega), World.cell?_setCell_far _ _ _ _ (by simp; omega), hb2.cell (by simp; omega), World.cell?_alloc_past _ _ _ (by first | omega | (simp; omega))]; exact y0
  have g1 : w3.cell? ⟨w.heap.size, 1, none⟩ = some (.int .i64 0) := by rw [hb3.cell (by simp at z3 ⊢; omega), World.cell?_setCell_far _ _ _ _ (by simp; omega), hb2.cell (by simp; omega), World.cell?_alloc_past _ _ _ (by first | omega | (simp; omega))]; exact y1
  have f0 : w3.frozen? ⟨w.heap.size, 0, none⟩ = false := by rw [hb3.frozen (by simp at z3 ⊢; omega), World.frozen?_setCell, hb2.frozen (by simp; omega), World.frozen?_alloc_old _ _ _ (by simp; omega)]; exact x0
  have f1 : w3.frozen? ⟨w.heap.size, 1, none⟩ = false := by rw [hb3.frozen (by simp at z3 ⊢; omega), World.frozen?_setCell, hb2.frozen (by simp; omega), World.frozen?_alloc_old _ _ _ (by simp; omega)]; exact x1
  have z5 : w1.heap.size < w3.heap.size := by have := hb3.size; simp at this z3; omega
  clear y0 y1 x0 x1 p0 p1 o1 z3
  go_wp2_with fail
  exact ⟨rfl, rfl, b3⟩

set_option maxRecDepth 100000 in
set_option maxHeartbeats 800000 in
theorem read_diff2 (s top bot : ByteArray) (w : World) (hs : St w) (hc : Cuts s top bot true) (ht : top.size ≤ 281474976710656) (ht2 : bot.size ≤ 281474976710656) (n d : Int) (h1 : rdI top.data.toList = some n) (h2 : rdI bot.data.toList = some d) (hv : vld n d = true) (hq : txt n d ≠ s) :
    Calls Tryd.prog 50 #[.string s] w fun e w' => e = raise 8 ∧ Below w.heap.size w w' := by
  have HS := Lib.hid hs; clear hs
  have b0 : Below w.heap.size w (w.alloc (.cells #[.int .i64 0, .int .i64 0] 23)) := (Below.refl _ _).alloc (Nat.le_refl _) _
  have HC := Lib.hid (hc _ (HS.out.below b0 HS.out.sz).ml); clear hc
  have hi : I64 n ∧ I64 d := ⟨rdI_i64 h1, rdI_i64 h2⟩
  have Hi := Lib.hid hi; clear hi
  have hne : ((txt n d).toList == s.toList) = false := str_ne hq
  clear hq
  have Hh1 := Lib.hid h1; clear h1
  have Hh2 := Lib.hid h2; clear h2
  have Hhv := Lib.hid hv; clear hv
  go_enter Tryd.func50, Tryd.ntmps50
  go_wp2_with fail
  refine HC.out.mono ?_
  rintro e w0 ⟨rfl, k, rfl⟩
  have bk := below_drewN' b0 k
  go_wp2_with fail
  refine (readInt_ok top n ht Hh1.out _).mono ?_
  rintro e w1 ⟨rfl, hb1⟩
  have b1 : Below w.heap.size w w1 := bk.trans (hb1.mono (by simp))
  have z1 := b1.size
  have z2 : w.heap.size + 1 ≤ w1.heap.size := by have := hb1.size; simpa using this
  obtain ⟨q1, q2⟩ := bcell hb1
  have y0 : w1.cell? ⟨w.heap.size, 0, none⟩ = some (.int .i64 0) := by rw [q1 _ _ (by simp)]; simp [go_sem]
  have y1 : w1.cell? ⟨w.heap.size, 1, none⟩ = some (.int .i64 0) := by rw [q1 _ _ (by simp)]; simp [go_sem]
  have x0 : w1.frozen? ⟨w.heap.size, 0, none⟩ = false := by rw [q2 _ _ (by simp)]; simp [go_sem]
  have x1 : w1.frozen? ⟨w.heap.size, 1, none⟩ = false := by rw [q2 _ _ (by simp)]; simp [go_sem]
  clear q1 q2
  go_wp2_with fail
  refine (readInt_ok bot d ht2 Hh2.out _).mono ?_
  rintro e w2 ⟨rfl, hb2⟩
  have b2 : Below w.heap.size w w2 := (b1.alloc z1 _).trans (hb2.mono (by simp; omega))
  obtain ⟨q1, q2⟩ := bcell hb2
  have p0 : w2.cell? ⟨w1.heap.size, 0, none⟩ = some (.int .i64 n) := by rw [q1 _ _ (by simp)]; simp [go_sem]
  have p1 : w2.cell? ⟨w1.heap.size, 1, none⟩ = some (.int .i64 1) := by rw [q1 _ _ (by simp)]; simp [go_sem]
  have o1 : w2.frozen? ⟨w1.heap.size, 1, none⟩ = false := by rw [q2 _ _ (by simp)]; simp [go_sem]
  clear q1 q2
  go_wp2_with fail
  refine (valid_b n d true Hhv.out _ Hi.out.1 Hi.out.2).mono ?_
  rintro e w3 ⟨rfl, hb3⟩
  have z3 := hb2.size
  have b3 : Below w.heap.size w w3 := (b2.setCell z1 _).trans (hb3.mono (by simp at z3 ⊢; omega))
  have c0 : w3.cell? ⟨w1.heap.size, 0, none⟩ = some (.int .i64 n) := by rw [hb3.cell (by simp at z3 ⊢; omega)]; simp [go_sem, p0]
  have c1 : w3.cell? ⟨w1.heap.size, 1, none⟩ = some (.int .i64 d) := by rw [hb3.cell (by simp at z3 ⊢; omega)]; simp [go_sem, p1]
  have g0 : w3.cell? ⟨w.heap.size, 0, none⟩ = some (.int .i64 0) := by rw [hb3.cell (by simp at z3 ⊢; omega), World.cell?_setCell_far _ _ _ _ (by simp; omega), hb2.cell (by simp; omega), World.cell?_alloc_past _ _ _ (by first | omega | (simp; omega))]; exact y0
  have g1 : w3.cell? ⟨w.heap.size, 1, none⟩ = some (.int .i64 0) := by rw [hb3.cell (by simp at z3 ⊢; omega), World.cell?_setCell_far _ _ _ _ (by simp; omega), hb2.cell (by simp; omega), World.cell?_alloc_past _ _ _ (by first | omega | (simp; omega))]; exact y1
  have f0 : w3.frozen? ⟨w.heap.size, 0, none⟩ = false := by rw [hb3.frozen (by simp at z3 ⊢; omega), World.frozen?_setCell, hb2.frozen (by simp; omega), World.frozen?_alloc_old _ _ _ (by simp; omega)]; exact x0
  have f1 : w3.frozen? ⟨w.heap.size, 1, none⟩ = false := by rw [hb3.frozen (by simp at z3 ⊢; omega), World.frozen?_setCell, hb2.frozen (by simp; omega), World.frozen?_alloc_old _ _ _ (by simp; omega)]; exact x1
  have z5 : w1.heap.size < w3.heap.size := by have := hb3.size; simp at this z3; omega
  clear y0 y1 x0 x1 p0 p1 o1 z3
  go_wp2_with fail
  refine (write_any n d Hi.out.1 Hi.out.2 _ (HS.out.below b3 HS.out.sz)).mono ?_
  rintro e w4 ⟨rfl, hb4⟩
  have z4 := b3.size
  have b4 : Below w.heap.size w w4 := b3.trans (hb4.mono z4)
  have d0 : w4.cell? ⟨w1.heap.size, 0, none⟩ = some (.int .i64 n) := by rw [hb4.cell z5]; exact c0
  have d1 : w4.cell? ⟨w1.heap.size, 1, none⟩ = some (.int .i64 d) := by rw [hb4.cell z5]; exact c1
  have e0 : w4.cell? ⟨w.heap.size, 0, none⟩ = some (.int .i64 0) := by rw [hb4.cell (block_lt g0)]; exact g0
  have e1 : w4.cell? ⟨w.heap.size, 1, none⟩ = some (.int .i64 0) := by rw [hb4.cell (block_lt g1)]; exact g1
  have k0 : w4.frozen? ⟨w.heap.size, 0, none⟩ = false := by rw [hb4.frozen (block_lt g0)]; exact f0
  have k1 : w4.frozen? ⟨w.heap.size, 1, none⟩ = false := by rw [hb4.frozen (block_lt g1)]; exact f1
  clear c0 c1 g0 g1 f0 f1
  go_wp2_with fail
  exact ⟨rfl, rfl, b4⟩

set_option maxRecDepth 100000 in
set_option maxHeartbeats 800000 in
theorem read_ok2 (s top bot : ByteArray) (w : World) (hs : St w) (hc : Cuts s top bot true) (ht : top.size ≤ 281474976710656) (ht2 : bot.size ≤ 281474976710656) (n d : Int) (h1 : rdI top.data.toList = some n) (h2 : rdI bot.data.toList = some d) (hv : vld n d = true) (hq : txt n d = s) :
    Calls Tryd.prog 50 #[.string s] w fun e w' => e = .returned (.agg #[.int .i64 n, .int .i64 d]) ∧ Below w.heap.size w w' := by
  have HS := Lib.hid hs; clear hs
  have b0 : Below w.heap.size w (w.alloc (.cells #[.int .i64 0, .int .i64 0] 23)) := (Below.refl _ _).alloc (Nat.le_refl _) _
  have HC := Lib.hid (hc _ (HS.out.below b0 HS.out.sz).ml); clear hc
  have hi : I64 n ∧ I64 d := ⟨rdI_i64 h1, rdI_i64 h2⟩
  have Hi := Lib.hid hi; clear hi
  have hne : ((txt n d).toList == s.toList) = true := by rw [hq]; simp
  clear hq
  have Hh1 := Lib.hid h1; clear h1
  have Hh2 := Lib.hid h2; clear h2
  have Hhv := Lib.hid hv; clear hv
  go_enter Tryd.func50, Tryd.ntmps50
  go_wp2_with fail
  refine HC.out.mono ?_
  rintro e w0 ⟨rfl, k, rfl⟩
  have bk := below_drewN' b0 k
  go_wp2_with fail
  refine (readInt_ok top n ht Hh1.out _).mono ?_
  rintro e w1 ⟨rfl, hb1⟩
  have b1 : Below w.heap.size w w1 := bk.trans (hb1.mono (by simp))
  have z1 := b1.size
  have z2 : w.heap.size + 1 ≤ w1.heap.size := by have := hb1.size; simpa using this
  obtain ⟨q1, q2⟩ := bcell hb1
  have y0 : w1.cell? ⟨w.heap.size, 0, none⟩ = some (.int .i64 0) := by rw [q1 _ _ (by simp)]; simp [go_sem]
  have y1 : w1.cell? ⟨w.heap.size, 1, none⟩ = some (.int .i64 0) := by rw [q1 _ _ (by simp)]; simp [go_sem]
  have x0 : w1.frozen? ⟨w.heap.size, 0, none⟩ = false := by rw [q2 _ _ (by simp)]; simp [go_sem]
  have x1 : w1.frozen? ⟨w.heap.size, 1, none⟩ = false := by rw [q2 _ _ (by simp)]; simp [go_sem]
  clear q1 q2
  go_wp2_with fail
  refine (readInt_ok bot d ht2 Hh2.out _).mono ?_
  rintro e w2 ⟨rfl, hb2⟩
  have b2 : Below w.heap.size w w2 := (b1.alloc z1 _).trans (hb2.mono (by simp; omega))
  obtain ⟨q1, q2⟩ := bcell hb2
  have p0 : w2.cell? ⟨w1.heap.size, 0, none⟩ = some (.int .i64 n) := by rw [q1 _ _ (by simp)]; simp [go_sem]
  have p1 : w2.cell? ⟨w1.heap.size, 1, none⟩ = some (.int .i64 1) := by rw [q1 _ _ (by simp)]; simp [go_sem]
  have o1 : w2.frozen? ⟨w1.heap.size, 1, none⟩ = false := by rw [q2 _ _ (by simp)]; simp [go_sem]
  clear q1 q2
  go_wp2_with fail
  refine (valid_b n d true Hhv.out _ Hi.out.1 Hi.out.2).mono ?_
  rintro e w3 ⟨rfl, hb3⟩
  have z3 := hb2.size
  have b3 : Below w.heap.size w w3 := (b2.setCell z1 _).trans (hb3.mono (by simp at z3 ⊢; omega))
  have c0 : w3.cell? ⟨w1.heap.size, 0, none⟩ = some (.int .i64 n) := by rw [hb3.cell (by simp at z3 ⊢; omega)]; simp [go_sem, p0]
  have c1 : w3.cell? ⟨w1.heap.size, 1, none⟩ = some (.int .i64 d) := by rw [hb3.cell (by simp at z3 ⊢; omega)]; simp [go_sem, p1]
  have g0 : w3.cell? ⟨w.heap.size, 0, none⟩ = some (.int .i64 0) := by rw [hb3.cell (by simp at z3 ⊢; omega), World.cell?_setCell_far _ _ _ _ (by simp; omega), hb2.cell (by simp; omega), World.cell?_alloc_past _ _ _ (by first | omega | (simp; omega))]; exact y0
  have g1 : w3.cell? ⟨w.heap.size, 1, none⟩ = some (.int .i64 0) := by rw [hb3.cell (by simp at z3 ⊢; omega), World.cell?_setCell_far _ _ _ _ (by simp; omega), hb2.cell (by simp; omega), World.cell?_alloc_past _ _ _ (by first | omega | (simp; omega))]; exact y1
  have f0 : w3.frozen? ⟨w.heap.size, 0, none⟩ = false := by rw [hb3.frozen (by simp at z3 ⊢; omega), World.frozen?_setCell, hb2.frozen (by simp; omega), World.frozen?_alloc_old _ _ _ (by simp; omega)]; exact x0
  have f1 : w3.frozen? ⟨w.heap.size, 1, none⟩ = false := by rw [hb3.frozen (by simp at z3 ⊢; omega), World.frozen?_setCell, hb2.frozen (by simp; omega), World.frozen?_alloc_old _ _ _ (by simp; omega)]; exact x1
  have z5 : w1.heap.size < w3.heap.size := by have := hb3.size; simp at this z3; omega
  clear y0 y1 x0 x1 p0 p1 o1 z3
  go_wp2_with fail
  refine (write_any n d Hi.out.1 Hi.out.2 _ (HS.out.below b3 HS.out.sz)).mono ?_
  rintro e w4 ⟨rfl, hb4⟩
  have z4 := b3.size
  have b4 : Below w.heap.size w w4 := b3.trans (hb4.mono z4)
  have d0 : w4.cell? ⟨w1.heap.size, 0, none⟩ = some (.int .i64 n) := by rw [hb4.cell z5]; exact c0
  have d1 : w4.cell? ⟨w1.heap.size, 1, none⟩ = some (.int .i64 d) := by rw [hb4.cell z5]; exact c1
  have e0 : w4.cell? ⟨w.heap.size, 0, none⟩ = some (.int .i64 0) := by rw [hb4.cell (block_lt g0)]; exact g0
  have e1 : w4.cell? ⟨w.heap.size, 1, none⟩ = some (.int .i64 0) := by rw [hb4.cell (block_lt g1)]; exact g1
  have k0 : w4.frozen? ⟨w.heap.size, 0, none⟩ = false := by rw [hb4.frozen (block_lt g0)]; exact f0
  have k1 : w4.frozen? ⟨w.heap.size, 1, none⟩ = false := by rw [hb4.frozen (block_lt g1)]; exact f1
  clear c0 c1 g0 g1 f0 f1
  go_wp2_with fail
  refine bodyPost_ret (v := .agg #[.int .i64 n, .int .i64 d]) (by simp [results, Tryd.results50, go_sem, e0, e1]) rfl ⟨rfl, ?_⟩
  exact (b4.setCell (by simp) _).setCell (by simp) _

set_option maxRecDepth 100000 in
set_option maxHeartbeats 800000 in
theorem read_inv1 (s top bot : ByteArray) (w : World) (hs : St w) (hc : Cuts s top bot false) (ht : top.size ≤ 281474976710656) (n : Int) (h1 : rdI top.data.toList = some n) (hv : vld n 1 = false) :
    Calls Tryd.prog 50 #[.string s] w fun e w' => e = raise 8 ∧ Below w.heap.size w w' := by
  have HS := Lib.hid hs; clear hs
  have b0 : Below w.heap.size w (w.alloc (.cells #[.int .i64 0, .int .i64 0] 23)) := (Below.refl _ _).alloc (Nat.le_refl _) _
  have HC := Lib.hid (hc _ (HS.out.below b0 HS.out.sz).ml); clear hc
  have hi : I64 n ∧ I64 1 := ⟨rdI_i64 h1, by constructor <;> omega⟩
  have Hi := Lib.hid hi; clear hi
  have Hh1 := Lib.hid h1; clear h1
  have Hhv := Lib.hid hv; clear hv
  go_enter Tryd.func50, Tryd.ntmps50
  go_wp2_with fail
  refine HC.out.mono ?_
  rintro e w0 ⟨rfl, k, rfl⟩
  have bk := below_drewN' b0 k
  go_wp2_with fail
  refine (readInt_ok top n ht Hh1.out _).mono ?_
  rintro e w1 ⟨rfl, hb1⟩
  have b1 : Below w.heap.size w w1 := bk.trans (hb1.mono (by simp))
  have z1 := b1.size
  have z2 : w.heap.size + 1 ≤ w1.heap.size := by have := hb1.size; simpa using this
  obtain ⟨q1, q2⟩ := bcell hb1
  have y0 : w1.cell? ⟨w.heap.size, 0, none⟩ = some (.int .i64 0) := by rw [q1 _ _ (by simp)]; simp [go_sem]
  have y1 : w1.cell? ⟨w.heap.size, 1, none⟩ = some (.int .i64 0) := by rw [q1 _ _ (by simp)]; simp [go_sem]
  have x0 : w1.frozen? ⟨w.heap.size, 0, none⟩ = false := by rw [q2 _ _ (by simp)]; simp [go_sem]
  have x1 : w1.frozen? ⟨w.heap.size, 1, none⟩ = false := by rw [q2 _ _ (by simp)]; simp [go_sem]
  clear q1 q2
  go_wp2_with fail
  refine (valid_b n 1 false Hhv.out _ Hi.out.1 Hi.out.2).mono ?_
  rintro e w3 ⟨rfl, hb3⟩
  have b3 : Below w.heap.size w w3 := (b1.alloc z1 _).trans (hb3.mono (by simp; omega))
  have c0 : w3.cell? ⟨w1.heap.size, 0, none⟩ = some (.int .i64 n) := by rw [hb3.cell (by simp)]; simp [go_sem]
  have c1 : w3.cell? ⟨w1.heap.size, 1, none⟩ = some (.int .i64 1) := by rw [hb3.cell (by simp)]; simp [go_sem]
  have g0 : w3.cell? ⟨w.heap.size, 0, none⟩ = some (.int .i64 0) := by rw [hb3.cell (by simp; omega), World.cell?_alloc_past _ _ _ (by first | omega | (simp; omega))]; exact y0
  have g1 : w3.cell? ⟨w.heap.size, 1, none⟩ = some (.int .i64 0) := by rw [hb3.cell (by simp; omega), World.cell?_alloc_past _ _ _ (by first | omega | (simp; omega))]; exact y1
  have f0 : w3.frozen? ⟨w.heap.size, 0, none⟩ = false := by rw [hb3.frozen (by simp; omega), World.frozen?_alloc_old _ _ _ (by simp; omega)]; exact x0
  have f1 : w3.frozen? ⟨w.heap.size, 1, none⟩ = false := by rw [hb3.frozen (by simp; omega), World.frozen?_alloc_old _ _ _ (by simp; omega)]; exact x1
  have z5 : w1.heap.size < w3.heap.size := by have := hb3.size; simp at this; omega
  clear y0 y1 x0 x1
  go_wp2_with fail
  exact ⟨rfl, rfl, b3⟩

set_option maxRecDepth 100000 in
set_option maxHeartbeats 800000 in
theorem read_diff1 (s top bot : ByteArray) (w : World) (hs : St w) (hc : Cuts s top bot false) (ht : top.size ≤ 281474976710656) (n : Int) (h1 : rdI top.data.toList = some n) (hv : vld n 1 = true) (hq : txt n 1 ≠ s) :
    Calls Tryd.prog 50 #[.string s] w fun e w' => e = raise 8 ∧ Below w.heap.size w w' := by
  have HS := Lib.hid hs; clear hs
  have b0 : Below w.heap.size w (w.alloc (.cells #[.int .i64 0, .int .i64 0] 23)) := (Below.refl _ _).alloc (Nat.le_refl _) _
  have HC := Lib.hid (hc _ (HS.out.below b0 HS.out.sz).ml); clear hc
  have hi : I64 n ∧ I64 1 := ⟨rdI_i64 h1, by constructor <;> omega⟩
  have Hi := Lib.hid hi; clear hi
  have hne : ((txt n 1).toList == s.toList) = false := str_ne hq
  clear hq
  have Hh1 := Lib.hid h1; clear h1
  have Hhv := Lib.hid hv; clear hv
  go_enter Tryd.func50, Tryd.ntmps50
  go_wp2_with fail
  refine HC.out.mono ?_
  rintro e w0 ⟨rfl, k, rfl⟩
  have bk := below_drewN' b0 k
  go_wp2_with fail
  refine (readInt_ok top n ht Hh1.out _).mono ?_
  rintro e w1 ⟨rfl, hb1⟩
  have b1 : Below w.heap.size w w1 := bk.trans (hb1.mono (by simp))
  have z1 := b1.size
  have z2 : w.heap.size + 1 ≤ w1.heap.size := by have := hb1.size; simpa using this
  obtain ⟨q1, q2⟩ := bcell hb1
  have y0 : w1.cell? ⟨w.heap.size, 0, none⟩ = some (.int .i64 0) := by rw [q1 _ _ (by simp)]; simp [go_sem]
  have y1 : w1.cell? ⟨w.heap.size, 1, none⟩ = some (.int .i64 0) := by rw [q1 _ _ (by simp)]; simp [go_sem]
  have x0 : w1.frozen? ⟨w.heap.size, 0, none⟩ = false := by rw [q2 _ _ (by simp)]; simp [go_sem]
  have x1 : w1.frozen? ⟨w.heap.size, 1, none⟩ = false := by rw [q2 _ _ (by simp)]; simp [go_sem]
  clear q1 q2
  go_wp2_with fail
  refine (valid_b n 1 true Hhv.out _ Hi.out.1 Hi.out.2).mono ?_
  rintro e w3 ⟨rfl, hb3⟩
  have b3 : Below w.heap.size w w3 := (b1.alloc z1 _).trans (hb3.mono (by simp; omega))
  have c0 : w3.cell? ⟨w1.heap.size, 0, none⟩ = some (.int .i64 n) := by rw [hb3.cell (by simp)]; simp [go_sem]
  have c1 : w3.cell? ⟨w1.heap.size, 1, none⟩ = some (.int .i64 1) := by rw [hb3.cell (by simp)]; simp [go_sem]
  have g0 : w3.cell? ⟨w.heap.size, 0, none⟩ = some (.int .i64 0) := by rw [hb3.cell (by simp; omega), World.cell?_alloc_past _ _ _ (by first | omega | (simp; omega))]; exact y0
  have g1 : w3.cell? ⟨w.heap.size, 1, none⟩ = some (.int .i64 0) := by rw [hb3.cell (by simp; omega), World.cell?_alloc_past _ _ _ (by first | omega | (simp; omega))]; exact y1
  have f0 : w3.frozen? ⟨w.heap.size, 0, none⟩ = false := by rw [hb3.frozen (by simp; omega), World.frozen?_alloc_old _ _ _ (by simp; omega)]; exact x0
  have f1 : w3.frozen? ⟨w.heap.size, 1, none⟩ = false := by rw [hb3.frozen (by simp; omega), World.frozen?_alloc_old _ _ _ (by simp; omega)]; exact x1
  have z5 : w1.heap.size < w3.heap.size := by have := hb3.size; simp at this; omega
  clear y0 y1 x0 x1
  go_wp2_with fail
  refine (write_any n 1 Hi.out.1 Hi.out.2 _ (HS.out.below b3 HS.out.sz)).mono ?_
  rintro e w4 ⟨rfl, hb4⟩
  have z4 := b3.size
  have b4 : Below w.heap.size w w4 := b3.trans (hb4.mono z4)
  have d0 : w4.cell? ⟨w1.heap.size, 0, none⟩ = some (.int .i64 n) := by rw [hb4.cell z5]; exact c0
  have d1 : w4.cell? ⟨w1.heap.size, 1, none⟩ = some (.int .i64 1) := by rw [hb4.cell z5]; exact c1
  have e0 : w4.cell? ⟨w.heap.size, 0, none⟩ = some (.int .i64 0) := by rw [hb4.cell (block_lt g0)]; exact g0
  have e1 : w4.cell? ⟨w.heap.size, 1, none⟩ = some (.int .i64 0) := by rw [hb4.cell (block_lt g1)]; exact g1
  have k0 : w4.frozen? ⟨w.heap.size, 0, none⟩ = false := by rw [hb4.frozen (block_lt g0)]; exact f0
  have k1 : w4.frozen? ⟨w.heap.size, 1, none⟩ = false := by rw [hb4.frozen (block_lt g1)]; exact f1
  clear c0 c1 g0 g1 f0 f1
  go_wp2_with fail
  exact ⟨rfl, rfl, b4⟩

set_option maxRecDepth 100000 in
set_option maxHeartbeats 800000 in
theorem read_ok1 (s top bot : ByteArray) (w : World) (hs : St w) (hc : Cuts s top bot false) (ht : top.size ≤ 281474976710656) (n : Int) (h1 : rdI top.data.toList = some n) (hv : vld n 1 = true) (hq : txt n 1 = s) :
    Calls Tryd.prog 50 #[.string s] w fun e w' => e = .returned (.agg #[.int .i64 n, .int .i64 1]) ∧ Below w.heap.size w w' := by
  have HS := Lib.hid hs; clear hs
  have b0 : Below w.heap.size w (w.alloc (.cells #[.int .i64 0, .int .i64 0] 23)) := (Below.refl _ _).alloc (Nat.le_refl _) _
  have HC := Lib.hid (hc _ (HS.out.below b0 HS.out.sz).ml); clear hc
  have hi : I64 n ∧ I64 1 := ⟨rdI_i64 h1, by constructor <;> omega⟩
  have Hi := Lib.hid hi; clear hi
  have hne : ((txt n 1).toList == s.toList) = true := by rw [hq]; simp
  clear hq
  have Hh1 := Lib.hid h1; clear h1
  have Hhv := Lib.hid hv; clear hv
  go_enter Tryd.func50, Tryd.ntmps50
  go_wp2_with fail
  refine HC.out.mono ?_
  rintro e w0 ⟨rfl, k, rfl⟩
  have bk := below_drewN' b0 k
  go_wp2_with fail
  refine (readInt_ok top n ht Hh1.out _).mono ?_
  rintro e w1 ⟨rfl, hb1⟩
  have b1 : Below w.heap.size w w1 := bk.trans (hb1.mono (by simp))
  have z1 := b1.size
  have z2 : w.heap.size + 1 ≤ w1.heap.size := by have := hb1.size; simpa using this
  obtain ⟨q1, q2⟩ := bcell hb1
  have y0 : w1.cell? ⟨w.heap.size, 0, none⟩ = some (.int .i64 0) := by rw [q1 _ _ (by simp)]; simp [go_sem]
  have y1 : w1.cell? ⟨w.heap.size, 1, none⟩ = some (.int .i64 0) := by rw [q1 _ _ (by simp)]; simp [go_sem]
  have x0 : w1.frozen? ⟨w.heap.size, 0, none⟩ = false := by rw [q2 _ _ (by simp)]; simp [go_sem]
  have x1 : w1.frozen? ⟨w.heap.size, 1, none⟩ = false := by rw [q2 _ _ (by simp)]; simp [go_sem]
  clear q1 q2
  go_wp2_with fail
  refine (valid_b n 1 true Hhv.out _ Hi.out.1 Hi.out.2).mono ?_
  rintro e w3 ⟨rfl, hb3⟩
  have b3 : Below w.heap.size w w3 := (b1.alloc z1 _).trans (hb3.mono (by simp; omega))
  have c0 : w3.cell? ⟨w1.heap.size, 0, none⟩ = some (.int .i64 n) := by rw [hb3.cell (by simp)]; simp [go_sem]
  have c1 : w3.cell? ⟨w1.heap.size, 1, none⟩ = some (.int .i64 1) := by rw [hb3.cell (by simp)]; simp [go_sem]
  have g0 : w3.cell? ⟨w.heap.size, 0, none⟩ = some (.int .i64 0) := by rw [hb3.cell (by simp; omega), World.cell?_alloc_past _ _ _ (by first | omega | (simp; omega))]; exact y0
  have g1 : w3.cell? ⟨w.heap.size, 1, none⟩ = some (.int .i64 0) := by rw [hb3.cell (by simp; omega), World.cell?_alloc_past _ _ _ (by first | omega | (simp; omega))]; exact y1
  have f0 : w3.frozen? ⟨w.heap.size, 0, none⟩ = false := by rw [hb3.frozen (by simp; omega), World.frozen?_alloc_old _ _ _ (by simp; omega)]; exact x0
  have f1 : w3.frozen? ⟨w.heap.size, 1, none⟩ = false := by rw [hb3.frozen (by simp; omega), World.frozen?_alloc_old _ _ _ (by simp; omega)]; exact x1
  have z5 : w1.heap.size < w3.heap.size := by have := hb3.size; simp at this; omega
  clear y0 y1 x0 x1
  go_wp2_with fail
  refine (write_any n 1 Hi.out.1 Hi.out.2 _ (HS.out.below b3 HS.out.sz)).mono ?_
  rintro e w4 ⟨rfl, hb4⟩
  have z4 := b3.size
  have b4 : Below w.heap.size w w4 := b3.trans (hb4.mono z4)
  have d0 : w4.cell? ⟨w1.heap.size, 0, none⟩ = some (.int .i64 n) := by rw [hb4.cell z5]; exact c0
  have d1 : w4.cell? ⟨w1.heap.size, 1, none⟩ = some (.int .i64 1) := by rw [hb4.cell z5]; exact c1
  have e0 : w4.cell? ⟨w.heap.size, 0, none⟩ = some (.int .i64 0) := by rw [hb4.cell (block_lt g0)]; exact g0
  have e1 : w4.cell? ⟨w.heap.size, 1, none⟩ = some (.int .i64 0) := by rw [hb4.cell (block_lt g1)]; exact g1
  have k0 : w4.frozen? ⟨w.heap.size, 0, none⟩ = false := by rw [hb4.frozen (block_lt g0)]; exact f0
  have k1 : w4.frozen? ⟨w.heap.size, 1, none⟩ = false := by rw [hb4.frozen (block_lt g1)]; exact f1
  clear c0 c1 g0 g1 f0 f1
  go_wp2_with fail
  refine bodyPost_ret (v := .agg #[.int .i64 n, .int .i64 1]) (by simp [results, Tryd.results50, go_sem, e0, e1]) rfl ⟨rfl, ?_⟩
  exact (b4.setCell (by simp) _).setCell (by simp) _

end Go.Proofs.YtpmlfchbihoflaaDoor
