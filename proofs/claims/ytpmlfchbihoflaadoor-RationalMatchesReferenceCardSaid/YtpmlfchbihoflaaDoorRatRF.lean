/-
  The reference of package rational: Text answers as that of package rational does, for any pair of ints.
-/
import Derived.Test.YtpmlfchbihoflaaDoorRatRE
namespace Go.Proofs.YtpmlfchbihoflaaDoor
open Go.RowKit Go.Sort
open Go.RowKit (Below)

/-- The decimal digits of a number, as a string. -/
def dS (u : Nat) : ByteArray := ⟨(Lib.decDigits u).toArray⟩
theorem dS_size (u : Nat) (h : u ≤ 9223372036854775807) : (dS u).size ≤ 21 := by
  have := digits_len u h
  unfold dS
  simpa [ByteArray.size] using this
theorem itS_neg {a : Int} (h : a < 0) : itS a = ⟨#[45]⟩ ++ dS a.natAbs := by
  unfold itS Lib.itoa dS
  rw [if_pos h]
  apply ByteArray.ext
  simp
theorem itS_pos {a : Int} (h : ¬ a < 0) : itS a = dS a.natAbs := by
  unfold itS Lib.itoa dS
  rw [if_neg h, show a.toNat = a.natAbs by omega]
theorem dig_max (a : Int) (w : World) (h1 : -1000000000 ≤ a) (h2 : a ≤ 1000000000) :
    Calls Tryd.prog 48 #[.int .i64 (max a (-a))] w fun e w' => e = .returned (.string (dS a.natAbs)) ∧ Below w.heap.size w w' := by
  have h := digits_any a.natAbs w (by omega)
  rw [show ((a.natAbs : Nat) : Int) = max a (-a) by omega] at h
  exact h
theorem dig_den (b : Int) (w : World) (h1 : 1 ≤ b) (h2 : b ≤ 1000000000) :
    Calls Tryd.prog 48 #[.int .i64 b] w fun e w' => e = .returned (.string (itS b)) ∧ Below w.heap.size w w' := by
  have h := digits_any b.natAbs w (by omega)
  rw [show ((b.natAbs : Nat) : Int) = b by omega] at h
  rw [itS_pos (by omega)]
  exact h
theorem txt_n1 {a b : Int} (hs : a < 0) (ho : b = 1) : txt a b = ⟨#[45]⟩ ++ dS a.natAbs := by
  unfold txt; rw [if_pos ho]; exact itS_neg hs
theorem txt_n2 {a b : Int} (hs : a < 0) (ho : 1 < b) : txt a b = ⟨#[45]⟩ ++ dS a.natAbs ++ ⟨#[47]⟩ ++ itS b := by
  unfold txt; rw [if_neg (by omega), itS_neg hs]
theorem txt_p1 {a b : Int} (hs : ¬ a < 0) (ho : b = 1) : txt a b = dS a.natAbs := by
  unfold txt; rw [if_pos ho]; exact itS_pos hs
theorem txt_p2 {a b : Int} (hs : ¬ a < 0) (ho : 1 < b) : txt a b = dS a.natAbs ++ ⟨#[47]⟩ ++ itS b := by
  unfold txt; rw [if_neg (by omega), itS_pos hs]
theorem minus_size : (⟨#[45]⟩ : ByteArray).size = 1 := rfl

set_option maxRecDepth 100000 in
set_option maxHeartbeats 800000 in
theorem reftext_n1 (a b : Int) (w : World) (ha : I64 a) (hb : I64 b) (hv : vld a b = true) (hs : a < 0) (ho : b ≤ 1) :
    Calls Tryd.prog 23 #[.agg #[.int .i64 a, .int .i64 b]] w
      fun e w' => e = .returned (.tuple #[.string (txt a b), .int .i64 0]) ∧ Below w.heap.size w w' := by
  obtain ⟨⟨a1, a2⟩, ⟨b0, b2⟩⟩ := vld_bd hv
  have b1 : 1 ≤ b := ((vld_iff a b).1 hv).1
  have HB := fun w => refvalid_any a b w ha hb
  rw [hv] at HB
  have H := Lib.hid HB; clear HB hv
  have l1 := dS_size a.natAbs (by omega)
  have l2 := itS_size b hb
  have c1 : ∀ w, (Op.stringOp .add ⟨#[45]⟩ (dS a.natAbs)).run Tryd.prog w = .ok (.string (⟨#[45]⟩ ++ dS a.natAbs)) w := fun w => add_run _ _ (by rw [minus_size]; omega) w
  have c2 : ∀ w, (Op.stringOp .add (⟨#[45]⟩ ++ dS a.natAbs) ⟨#[47]⟩).run Tryd.prog w = .ok (.string (⟨#[45]⟩ ++ dS a.natAbs ++ ⟨#[47]⟩)) w := fun w => add_run _ _ (by simp only [ByteArray.size_append, minus_size, slash_size]; omega) w
  have c3 : ∀ w, (Op.stringOp .add (⟨#[45]⟩ ++ dS a.natAbs ++ ⟨#[47]⟩) (itS b)).run Tryd.prog w = .ok (.string (⟨#[45]⟩ ++ dS a.natAbs ++ ⟨#[47]⟩ ++ itS b)) w := fun w => add_run _ _ (by simp only [ByteArray.size_append, minus_size, slash_size]; omega) w
  clear l1 l2
  have HM := Lib.hid (fun w => dig_max a w a1 a2)
  have HN := Lib.hid (fun w => dig_den b w b1 b2)
  have HT := Lib.hid (txt_n1 hs (show b = 1 by omega))
  go_enter Tryd.func23, Tryd.ntmps23
  go_wp2_with fail
  refine (H.out _).mono ?_
  rintro e w1 ⟨rfl, hb1⟩
  obtain ⟨h1, h2⟩ := bcell hb1
  have k0 : w1.cell? ⟨w.heap.size, 0, none⟩ = some (.int .i64 a) := by rw [h1 _ _ (by simp)]; simp [go_sem]
  have k1 : w1.cell? ⟨w.heap.size, 1, none⟩ = some (.int .i64 b) := by rw [h1 _ _ (by simp)]; simp [go_sem]
  clear h1 h2
  have p1 : Below w.heap.size w w1 := ((Below.refl _ _).alloc (Nat.le_refl _) _).trans (hb1.mono (by simp))
  go_wp2_with fail
  refine (HM.out _).mono ?_
  rintro e w2 ⟨rfl, hb2⟩
  have m0 : w2.cell? ⟨w.heap.size, 0, none⟩ = some (.int .i64 a) := by rw [hb2.cell (block_lt k0)]; exact k0
  have m1 : w2.cell? ⟨w.heap.size, 1, none⟩ = some (.int .i64 b) := by rw [hb2.cell (block_lt k1)]; exact k1
  have p2 : Below w.heap.size w w2 := p1.trans (hb2.mono p1.size)
  clear k0 k1
  go_wp2
  go_ret2
  exact ⟨by rw [HT.out]; rfl, p2⟩

set_option maxRecDepth 100000 in
set_option maxHeartbeats 800000 in
theorem reftext_n2 (a b : Int) (w : World) (ha : I64 a) (hb : I64 b) (hv : vld a b = true) (hs : a < 0) (ho : 1 < b) :
    Calls Tryd.prog 23 #[.agg #[.int .i64 a, .int .i64 b]] w
      fun e w' => e = .returned (.tuple #[.string (txt a b), .int .i64 0]) ∧ Below w.heap.size w w' := by
  obtain ⟨⟨a1, a2⟩, ⟨b0, b2⟩⟩ := vld_bd hv
  have b1 : 1 ≤ b := ((vld_iff a b).1 hv).1
  have HB := fun w => refvalid_any a b w ha hb
  rw [hv] at HB
  have H := Lib.hid HB; clear HB hv
  have l1 := dS_size a.natAbs (by omega)
  have l2 := itS_size b hb
  have c1 : ∀ w, (Op.stringOp .add ⟨#[45]⟩ (dS a.natAbs)).run Tryd.prog w = .ok (.string (⟨#[45]⟩ ++ dS a.natAbs)) w := fun w => add_run _ _ (by rw [minus_size]; omega) w
  have c2 : ∀ w, (Op.stringOp .add (⟨#[45]⟩ ++ dS a.natAbs) ⟨#[47]⟩).run Tryd.prog w = .ok (.string (⟨#[45]⟩ ++ dS a.natAbs ++ ⟨#[47]⟩)) w := fun w => add_run _ _ (by simp only [ByteArray.size_append, minus_size, slash_size]; omega) w
  have c3 : ∀ w, (Op.stringOp .add (⟨#[45]⟩ ++ dS a.natAbs ++ ⟨#[47]⟩) (itS b)).run Tryd.prog w = .ok (.string (⟨#[45]⟩ ++ dS a.natAbs ++ ⟨#[47]⟩ ++ itS b)) w := fun w => add_run _ _ (by simp only [ByteArray.size_append, minus_size, slash_size]; omega) w
  clear l1 l2
  have HM := Lib.hid (fun w => dig_max a w a1 a2)
  have HN := Lib.hid (fun w => dig_den b w b1 b2)
  have HT := Lib.hid (txt_n2 hs ho)
  go_enter Tryd.func23, Tryd.ntmps23
  go_wp2_with fail
  refine (H.out _).mono ?_
  rintro e w1 ⟨rfl, hb1⟩
  obtain ⟨h1, h2⟩ := bcell hb1
  have k0 : w1.cell? ⟨w.heap.size, 0, none⟩ = some (.int .i64 a) := by rw [h1 _ _ (by simp)]; simp [go_sem]
  have k1 : w1.cell? ⟨w.heap.size, 1, none⟩ = some (.int .i64 b) := by rw [h1 _ _ (by simp)]; simp [go_sem]
  clear h1 h2
  have p1 : Below w.heap.size w w1 := ((Below.refl _ _).alloc (Nat.le_refl _) _).trans (hb1.mono (by simp))
  go_wp2_with fail
  refine (HM.out _).mono ?_
  rintro e w2 ⟨rfl, hb2⟩
  have m0 : w2.cell? ⟨w.heap.size, 0, none⟩ = some (.int .i64 a) := by rw [hb2.cell (block_lt k0)]; exact k0
  have m1 : w2.cell? ⟨w.heap.size, 1, none⟩ = some (.int .i64 b) := by rw [hb2.cell (block_lt k1)]; exact k1
  have p2 : Below w.heap.size w w2 := p1.trans (hb2.mono p1.size)
  clear k0 k1
  go_wp2_with fail
  refine (HN.out _).mono ?_
  rintro e w3 ⟨rfl, hb3⟩
  go_wp2
  go_ret2
  exact ⟨by rw [HT.out]; rfl, p2.trans (hb3.mono p2.size)⟩

set_option maxRecDepth 100000 in
set_option maxHeartbeats 800000 in
theorem reftext_p1 (a b : Int) (w : World) (ha : I64 a) (hb : I64 b) (hv : vld a b = true) (hs : ¬ a < 0) (ho : b ≤ 1) :
    Calls Tryd.prog 23 #[.agg #[.int .i64 a, .int .i64 b]] w
      fun e w' => e = .returned (.tuple #[.string (txt a b), .int .i64 0]) ∧ Below w.heap.size w w' := by
  obtain ⟨⟨a1, a2⟩, ⟨b0, b2⟩⟩ := vld_bd hv
  have b1 : 1 ≤ b := ((vld_iff a b).1 hv).1
  have HB := fun w => refvalid_any a b w ha hb
  rw [hv] at HB
  have H := Lib.hid HB; clear HB hv
  have l1 := dS_size a.natAbs (by omega)
  have l2 := itS_size b hb
  have c1 : ∀ w, (Op.stringOp .add ⟨#[45]⟩ (dS a.natAbs)).run Tryd.prog w = .ok (.string (⟨#[45]⟩ ++ dS a.natAbs)) w := fun w => add_run _ _ (by rw [minus_size]; omega) w
  have c2 : ∀ w, (Op.stringOp .add (dS a.natAbs) ⟨#[47]⟩).run Tryd.prog w = .ok (.string (dS a.natAbs ++ ⟨#[47]⟩)) w := fun w => add_run _ _ (by simp only [slash_size]; omega) w
  have c3 : ∀ w, (Op.stringOp .add (dS a.natAbs ++ ⟨#[47]⟩) (itS b)).run Tryd.prog w = .ok (.string (dS a.natAbs ++ ⟨#[47]⟩ ++ itS b)) w := fun w => add_run _ _ (by simp only [ByteArray.size_append, slash_size]; omega) w
  clear l1 l2
  have HM := Lib.hid (fun w => dig_max a w a1 a2)
  have HN := Lib.hid (fun w => dig_den b w b1 b2)
  have HT := Lib.hid (txt_p1 hs (show b = 1 by omega))
  go_enter Tryd.func23, Tryd.ntmps23
  go_wp2_with fail
  refine (H.out _).mono ?_
  rintro e w1 ⟨rfl, hb1⟩
  obtain ⟨h1, h2⟩ := bcell hb1
  have k0 : w1.cell? ⟨w.heap.size, 0, none⟩ = some (.int .i64 a) := by rw [h1 _ _ (by simp)]; simp [go_sem]
  have k1 : w1.cell? ⟨w.heap.size, 1, none⟩ = some (.int .i64 b) := by rw [h1 _ _ (by simp)]; simp [go_sem]
  clear h1 h2
  have p1 : Below w.heap.size w w1 := ((Below.refl _ _).alloc (Nat.le_refl _) _).trans (hb1.mono (by simp))
  go_wp2_with fail
  refine (HM.out _).mono ?_
  rintro e w2 ⟨rfl, hb2⟩
  have m0 : w2.cell? ⟨w.heap.size, 0, none⟩ = some (.int .i64 a) := by rw [hb2.cell (block_lt k0)]; exact k0
  have m1 : w2.cell? ⟨w.heap.size, 1, none⟩ = some (.int .i64 b) := by rw [hb2.cell (block_lt k1)]; exact k1
  have p2 : Below w.heap.size w w2 := p1.trans (hb2.mono p1.size)
  clear k0 k1
  go_wp2
  go_ret2
  exact ⟨by rw [HT.out]; rfl, p2⟩

set_option maxRecDepth 100000 in
set_option maxHeartbeats 800000 in
theorem reftext_p2 (a b : Int) (w : World) (ha : I64 a) (hb : I64 b) (hv : vld a b = true) (hs : ¬ a < 0) (ho : 1 < b) :
    Calls Tryd.prog 23 #[.agg #[.int .i64 a, .int .i64 b]] w
      fun e w' => e = .returned (.tuple #[.string (txt a b), .int .i64 0]) ∧ Below w.heap.size w w' := by
  obtain ⟨⟨a1, a2⟩, ⟨b0, b2⟩⟩ := vld_bd hv
  have b1 : 1 ≤ b := ((vld_iff a b).1 hv).1
  have HB := fun w => refvalid_any a b w ha hb
  rw [hv] at HB
  have H := Lib.hid HB; clear HB hv
  have l1 := dS_size a.natAbs (by omega)
  have l2 := itS_size b hb
  have c1 : ∀ w, (Op.stringOp .add ⟨#[45]⟩ (dS a.natAbs)).run Tryd.prog w = .ok (.string (⟨#[45]⟩ ++ dS a.natAbs)) w := fun w => add_run _ _ (by rw [minus_size]; omega) w
  have c2 : ∀ w, (Op.stringOp .add (dS a.natAbs) ⟨#[47]⟩).run Tryd.prog w = .ok (.string (dS a.natAbs ++ ⟨#[47]⟩)) w := fun w => add_run _ _ (by simp only [slash_size]; omega) w
  have c3 : ∀ w, (Op.stringOp .add (dS a.natAbs ++ ⟨#[47]⟩) (itS b)).run Tryd.prog w = .ok (.string (dS a.natAbs ++ ⟨#[47]⟩ ++ itS b)) w := fun w => add_run _ _ (by simp only [ByteArray.size_append, slash_size]; omega) w
  clear l1 l2
  have HM := Lib.hid (fun w => dig_max a w a1 a2)
  have HN := Lib.hid (fun w => dig_den b w b1 b2)
  have HT := Lib.hid (txt_p2 hs ho)
  go_enter Tryd.func23, Tryd.ntmps23
  go_wp2_with fail
  refine (H.out _).mono ?_
  rintro e w1 ⟨rfl, hb1⟩
  obtain ⟨h1, h2⟩ := bcell hb1
  have k0 : w1.cell? ⟨w.heap.size, 0, none⟩ = some (.int .i64 a) := by rw [h1 _ _ (by simp)]; simp [go_sem]
  have k1 : w1.cell? ⟨w.heap.size, 1, none⟩ = some (.int .i64 b) := by rw [h1 _ _ (by simp)]; simp [go_sem]
  clear h1 h2
  have p1 : Below w.heap.size w w1 := ((Below.refl _ _).alloc (Nat.le_refl _) _).trans (hb1.mono (by simp))
  go_wp2_with fail
  refine (HM.out _).mono ?_
  rintro e w2 ⟨rfl, hb2⟩
  have m0 : w2.cell? ⟨w.heap.size, 0, none⟩ = some (.int .i64 a) := by rw [hb2.cell (block_lt k0)]; exact k0
  have m1 : w2.cell? ⟨w.heap.size, 1, none⟩ = some (.int .i64 b) := by rw [hb2.cell (block_lt k1)]; exact k1
  have p2 : Below w.heap.size w w2 := p1.trans (hb2.mono p1.size)
  clear k0 k1
  go_wp2_with fail
  refine (HN.out _).mono ?_
  rintro e w3 ⟨rfl, hb3⟩
  go_wp2
  go_ret2
  exact ⟨by rw [HT.out]; rfl, p2.trans (hb3.mono p2.size)⟩

set_option maxRecDepth 100000 in
set_option maxHeartbeats 400000 in
theorem reftext_any (a b : Int) (w : World) (ha : I64 a) (hb : I64 b) :
    Calls Tryd.prog 23 #[.agg #[.int .i64 a, .int .i64 b]] w
      fun e w' => e = .returned (.tuple #[.string (textR (vld a b) a b), .int .i64 (cmpE (vld a b))]) ∧ Below w.heap.size w w' := by
  cases hv : vld a b with
  | false =>
    have HB := fun w => refvalid_any a b w ha hb
    rw [show textR false a b = ⟨#[]⟩ by rfl, show cmpE false = 1 by rfl]
    rw [hv] at HB
    have H := Lib.hid HB; clear HB hv
    go_enter Tryd.func23, Tryd.ntmps23
    go_wp2_with fail
    refine (H.out _).mono ?_
    rintro e w1 ⟨rfl, hb1⟩
    go_wp2
    go_ret2
    exact ⟨rfl, ((Below.refl _ _).alloc (Nat.le_refl _) _).trans (hb1.mono (by simp))⟩
  | true =>
    rw [show textR true a b = txt a b by rfl, show cmpE true = 0 by rfl]
    have b1 : 1 ≤ b := ((vld_iff a b).1 hv).1
    by_cases hs : a < 0 <;> by_cases ho : b = 1
    · exact reftext_n1 a b w ha hb hv hs (by omega)
    · exact reftext_n2 a b w ha hb hv hs (by omega)
    · exact reftext_p1 a b w ha hb hv hs (by omega)
    · exact reftext_p2 a b w ha hb hv hs (by omega)
end Go.Proofs.YtpmlfchbihoflaaDoor
