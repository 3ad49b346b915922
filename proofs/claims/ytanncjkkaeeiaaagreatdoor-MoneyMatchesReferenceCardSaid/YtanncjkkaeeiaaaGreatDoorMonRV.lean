/-
  The reference of package money: digits, names and Text.
-/
import Derived.Test.YtanncjkkaeeiaaaGreatDoorMonX
import Derived.Laws.BytesArg
namespace Go.Proofs.YtanncjkkaeeiaaaGreatDoor
open Go.RowKit Go.Sort
open Go.RowKit (Below)
set_option linter.unusedVariables false

/-- The text of one byte, and of two. -/
theorem conv1 (x : Int) (W : World) : (convert 50 9 (.slice (some ⟨W.heap.size, 0, none⟩) 1 1)).run Tryz.prog (W.alloc (.cells #[.int .u8 x] 5)) = .ok (.string (strOfNums [x])) (W.alloc (.cells #[.int .u8 x] 5)) :=
  run_convert_bytes_arg _ _ 5 (by kernel_rfl) (by kernel_rfl) _ 0 1 1 [x] rfl (by
    intro i hi
    obtain rfl : i = 0 := by omega
    simp [go_sem]) _ (by kernel_rfl)
theorem conv2 (x y : Int) (W : World) : (convert 50 9 (.slice (some ⟨W.heap.size, 0, none⟩) 2 2)).run Tryz.prog (W.alloc (.cells #[.int .u8 x, .int .u8 y] 5)) = .ok (.string (strOfNums [x, y])) (W.alloc (.cells #[.int .u8 x, .int .u8 y] 5)) :=
  run_convert_bytes_arg _ _ 5 (by kernel_rfl) (by kernel_rfl) _ 0 2 2 [x, y] rfl (by
    intro i hi
    obtain rfl | rfl : i = 0 ∨ i = 1 := by omega
    · simp [go_sem]
    · simp [go_sem]) _ (by kernel_rfl)

/-- What comes ahead of the last digit. -/
def ahead (m : Nat) : List UInt8 := if m < 10 then [] else Lib.decDigits (m / 10)
theorem dig_last (m : Nat) : Lib.decDigits m = ahead m ++ (strOfNums [48 + (m : Int) % 10]).data.toList := by
  rw [Lib.decDigits]; unfold ahead
  have e : (strOfNums [48 + (m : Int) % 10]).data.toList = [UInt8.ofNat (48 + m % 10)] := by
    rw [strOfNums_data]
    have : (48 + (m : Int) % 10).toNat = 48 + m % 10 := by omega
    simp [this]
  rw [e]
  split
  · rw [Nat.mod_eq_of_lt (by assumption)]; rfl
  · rfl
theorem digits_len (u : Nat) (h : u ≤ 9223372036854775807) : (Lib.decDigits u).length ≤ 21 := by
  have h := Lib.itoa_length_le (u : Int) (by omega) (by omega)
  unfold Lib.itoa at h
  rw [if_neg (by omega)] at h
  simpa using h

set_option maxRecDepth 100000 in
set_option maxHeartbeats 800000 in
theorem digits_any (u : Nat) (w : World) (h2 : u ≤ 9223372036854775807) :
    Calls Tryz.prog 32 #[.int .i64 u] w fun e w' => e = .returned (.string ⟨(Lib.decDigits u).toArray⟩) ∧ Below w.heap.size w w' := by
  have cv := conv1
  have HL := Lib.hid (digits_len u h2)
  go_enter Tryz.func32, Tryz.ntmps32
  go_wp2
  go_loopw [0, 3] (fun a b wr => ∃ (m : Nat) (r : ByteArray), m ≤ 9223372036854775807 ∧ a = .int .i64 m ∧ b = .string r ∧ Hid (Lib.decDigits u = ahead m ++ r.data.toList) ∧ Below w.heap.size w wr) (fun a _ _ => (intOf a).toNat)
  case atStart => exact ⟨u, _, h2, rfl, rfl, dig_last u, (Below.refl _ _).alloc (Nat.le_refl _) _⟩
  case round =>
    obtain ⟨m, r, hm, rfl, rfl, HD, hb⟩ := hrel
    by_cases h9 : m ≤ 9
    · go_wp2
      go_ret
      refine ⟨?_, hb⟩
      have hd := HD.out
      unfold ahead at hd
      rw [if_pos (by omega)] at hd
      rw [hd]
      rfl
    · have hl : (strOfNums [48 + (m : Int) / 10 % 10]).size + r.size ≤ 100 := by
        have h1 := HL.out
        rw [HD.out, List.length_append] at h1
        have h2 : r.data.toList.length = r.size := by simp
        rw [strOfNums_size]; simp; omega
      have ca := fun w => add_run (strOfNums [48 + (m : Int) / 10 % 10]) r (by omega) w
      have hd : Lib.decDigits u = ahead (m / 10) ++ (strOfNums [48 + (m : Int) / 10 % 10] ++ r).data.toList := by
        have h1 := HD.out
        have h2 := dig_last (m / 10)
        rw [h1]
        conv => lhs; unfold ahead
        rw [if_neg (by omega), h2, List.append_assoc]
        simp
      have HE := Lib.hid hd
      clear hd hl
      go_wp2
      go_roundw
      case rel => exact ⟨m / 10, _, by omega, by simp, rfl, HE.out, hb.alloc hb.size _⟩
      case measure => simp [intOf]; omega

def nmS (x : Int) : ByteArray := if x = 1 then eus else chs
theorem names_any (x : Int) (hx : cur x = true) (w : World) : Calls Tryz.prog 31 #[.int .i64 x] w fun e w' => e = .returned (.string (nmS x)) ∧ w = w' := by
  rcases cur_iff.1 hx with rfl | rfl
  · go_enter Tryz.func31, Tryz.ntmps31
    go_wp2
    go_ret
    exact ⟨rfl, rfl⟩
  · go_enter Tryz.func31, Tryz.ntmps31
    go_wp2
    go_ret
    exact ⟨rfl, rfl⟩
theorem nmS_size (x : Int) : (nmS x).size = 4 := by unfold nmS; split <;> rfl
theorem nmS_list (x : Int) : (nmS x).data.toList = nml x := by unfold nmS nml; split <;> rfl
/-- The decimal digits of a number, as a string. -/
def dS (u : Nat) : ByteArray := ⟨(Lib.decDigits u).toArray⟩
theorem dS_size (u : Nat) (h : u ≤ 9223372036854775807) : (dS u).size ≤ 21 := by
  have := digits_len u h
  unfold dS
  simpa [ByteArray.size] using this
theorem minus_size : (⟨#[45]⟩ : ByteArray).size = 1 := rfl
theorem two_size (x y : Int) : (strOfNums [x, y]).size = 2 := by rw [strOfNums_size]; rfl
theorem two_list (z : Int) (u : Nat) (h : z = u) : (strOfNums [48 + z / 10 % 10, 48 + z % 10]).data.toList = [UInt8.ofNat (48 + u / 10 % 10), UInt8.ofNat (48 + u % 10)] := by
  subst h
  rw [strOfNums_data]
  have h1 : (48 + (u : Int) / 10 % 10).toNat = 48 + u / 10 % 10 := by omega
  have h2 : (48 + (u : Int) % 10).toNat = 48 + u % 10 := by omega
  simp [h1, h2]
theorem ret_si {k : IntKind} {a b : ByteArray} {x : Int} (h : a = b) : Ending.returned (.tuple #[.string a, .int k x]) = .returned (.tuple #[.string b, .int k x]) := by rw [h]
theorem mtc_neg {z x : Int} (h : -z < 0) : nmS x ++ ⟨#[45]⟩ ++ dS (z.natAbs / 100) ++ ⟨#[46]⟩ ++ strOfNums [48 + z / 10 % 10, 48 + z % 10] = mtc (-z) x := by
  refine str_ext ?_
  rw [mtc_list, mtl, if_pos h, Int.natAbs_neg]
  simp only [ByteArray.data_append, Array.toList_append, nmS_list, two_list z z.natAbs (by omega), dS]
  simp
theorem mtc_pos {c x : Int} (h : ¬ c < 0) : nmS x ++ dS (c.natAbs / 100) ++ ⟨#[46]⟩ ++ strOfNums [48 + c / 10 % 10, 48 + c % 10] = mtc c x := by
  refine str_ext ?_
  rw [mtc_list, mtl, if_neg h]
  simp only [ByteArray.data_append, Array.toList_append, nmS_list, two_list c c.natAbs (by omega), dS]
  simp

set_option maxRecDepth 100000 in
set_option maxHeartbeats 800000 in
theorem reftext_neg (z x : Int) (w : World) (ha : am (-z) = true) (hx : cur x = true) (h0 : -z < 0) :
    Calls Tryz.prog 14 #[.int .i64 (-z), .int .i64 x] w fun e w' => e = .returned (.tuple #[.string (mtc (-z) x), .int .i64 0]) ∧ Below w.heap.size w w' := by
  obtain ⟨k1, k2⟩ := am_bd.1 ha
  have cv := conv2
  have l1 := nmS_size x
  have l2 := dS_size ((z).natAbs / 100) (by omega)
  have l3 := two_size (48 + (z) / 10 % 10) (48 + (z) % 10)
  have c1 : ∀ w, (Op.stringOp .add (nmS x) ⟨#[45]⟩).run Tryz.prog w = .ok (.string (nmS x ++ ⟨#[45]⟩)) w := fun w => add_run _ _ (by rw [minus_size]; omega) w
  have c2 : ∀ w, (Op.stringOp .add (nmS x ++ ⟨#[45]⟩) (dS ((z).natAbs / 100))).run Tryz.prog w = .ok (.string (nmS x ++ ⟨#[45]⟩ ++ dS ((z).natAbs / 100))) w := fun w => add_run _ _ (by rw [ByteArray.size_append, minus_size]; omega) w
  have c3 : ∀ w, (Op.stringOp .add (nmS x ++ ⟨#[45]⟩ ++ dS ((z).natAbs / 100)) ⟨#[46]⟩).run Tryz.prog w = .ok (.string (nmS x ++ ⟨#[45]⟩ ++ dS ((z).natAbs / 100) ++ ⟨#[46]⟩)) w := fun w => add_run _ _ (by rw [ByteArray.size_append, pt_size]; rw [ByteArray.size_append, minus_size]; omega) w
  have c4 : ∀ w, (Op.stringOp .add (nmS x ++ ⟨#[45]⟩ ++ dS ((z).natAbs / 100) ++ ⟨#[46]⟩) (strOfNums [48 + (z) / 10 % 10, 48 + (z) % 10])).run Tryz.prog w = .ok (.string (nmS x ++ ⟨#[45]⟩ ++ dS ((z).natAbs / 100) ++ ⟨#[46]⟩ ++ strOfNums [48 + (z) / 10 % 10, 48 + (z) % 10])) w := fun w => add_run _ _ (by rw [ByteArray.size_append, ByteArray.size_append, pt_size]; rw [ByteArray.size_append, minus_size]; omega) w
  clear l1 l2 l3
  have hdg : ∀ W : World, Calls Tryz.prog 32 #[.int .i64 ((z) / 100)] W fun e w' => e = .returned (.string (dS ((z).natAbs / 100))) ∧ Below W.heap.size W w' := fun W => by
    have h := digits_any ((z).natAbs / 100) W (by omega)
    rw [show (((z).natAbs / 100 : Nat) : Int) = (z) / 100 by omega] at h
    exact h
  have HDG := Lib.hid hdg
  have HM := Lib.hid (mtc_neg (x := x) h0)
  have HA := Lib.hid ha
  have HX := Lib.hid hx
  clear hdg ha hx
  generalize mtc (-z) x = M at *
  go_enter Tryz.func14, Tryz.ntmps14
  go_wp2_with fail
  refine (refam_b _ true HA.out _).mono ?_
  rintro e w' ⟨rfl, rfl⟩
  go_wp2_with fail
  refine (refcur_b _ true HX.out _).mono ?_
  rintro e w' ⟨rfl, rfl⟩
  go_wp2_with fail
  refine (names_any _ HX.out _).mono ?_
  rintro e w' ⟨rfl, rfl⟩
  go_wp2_with fail
  refine (HDG.out _).mono ?_
  rintro e w1 ⟨rfl, hb⟩
  go_wp2_with fail
  go_ret2
  exact ⟨ret_si HM.out, hb.alloc hb.size _⟩

set_option maxRecDepth 100000 in
set_option maxHeartbeats 800000 in
theorem reftext_pos (c x : Int) (w : World) (ha : am c = true) (hx : cur x = true) (h0 : ¬ c < 0) :
    Calls Tryz.prog 14 #[.int .i64 c, .int .i64 x] w fun e w' => e = .returned (.tuple #[.string (mtc c x), .int .i64 0]) ∧ Below w.heap.size w w' := by
  obtain ⟨k1, k2⟩ := am_bd.1 ha
  have cv := conv2
  have l1 := nmS_size x
  have l2 := dS_size ((c).natAbs / 100) (by omega)
  have l3 := two_size (48 + (c) / 10 % 10) (48 + (c) % 10)
  have c2 : ∀ w, (Op.stringOp .add (nmS x) (dS ((c).natAbs / 100))).run Tryz.prog w = .ok (.string (nmS x ++ dS ((c).natAbs / 100))) w := fun w => add_run _ _ (by omega) w
  have c3 : ∀ w, (Op.stringOp .add (nmS x ++ dS ((c).natAbs / 100)) ⟨#[46]⟩).run Tryz.prog w = .ok (.string (nmS x ++ dS ((c).natAbs / 100) ++ ⟨#[46]⟩)) w := fun w => add_run _ _ (by rw [ByteArray.size_append, pt_size]; omega) w
  have c4 : ∀ w, (Op.stringOp .add (nmS x ++ dS ((c).natAbs / 100) ++ ⟨#[46]⟩) (strOfNums [48 + (c) / 10 % 10, 48 + (c) % 10])).run Tryz.prog w = .ok (.string (nmS x ++ dS ((c).natAbs / 100) ++ ⟨#[46]⟩ ++ strOfNums [48 + (c) / 10 % 10, 48 + (c) % 10])) w := fun w => add_run _ _ (by rw [ByteArray.size_append, ByteArray.size_append, pt_size]; omega) w
  clear l1 l2 l3
  have hdg : ∀ W : World, Calls Tryz.prog 32 #[.int .i64 ((c) / 100)] W fun e w' => e = .returned (.string (dS ((c).natAbs / 100))) ∧ Below W.heap.size W w' := fun W => by
    have h := digits_any ((c).natAbs / 100) W (by omega)
    rw [show (((c).natAbs / 100 : Nat) : Int) = (c) / 100 by omega] at h
    exact h
  have HDG := Lib.hid hdg
  have HM := Lib.hid (mtc_pos (x := x) h0)
  have HA := Lib.hid ha
  have HX := Lib.hid hx
  clear hdg ha hx
  generalize mtc c x = M at *
  go_enter Tryz.func14, Tryz.ntmps14
  go_wp2_with fail
  refine (refam_b _ true HA.out _).mono ?_
  rintro e w' ⟨rfl, rfl⟩
  go_wp2_with fail
  refine (refcur_b _ true HX.out _).mono ?_
  rintro e w' ⟨rfl, rfl⟩
  go_wp2_with fail
  refine (names_any _ HX.out _).mono ?_
  rintro e w' ⟨rfl, rfl⟩
  go_wp2_with fail
  refine (HDG.out _).mono ?_
  rintro e w1 ⟨rfl, hb⟩
  go_wp2_with fail
  go_ret2
  exact ⟨ret_si HM.out, hb.alloc hb.size _⟩

set_option maxHeartbeats 400000 in
theorem reftext_n1 (c x : Int) (w : World) (ha : am c = false) (bx : Bool) (hx : cur x = bx) :
    Calls Tryz.prog 14 #[.int .i64 c, .int .i64 x] w fun e w' => e = .returned (.tuple #[.string ⟨#[]⟩, .int .i64 1]) ∧ w = w' := by
  have HA := Lib.hid ha
  have HX := Lib.hid hx
  clear ha hx
  go_enter Tryz.func14, Tryz.ntmps14
  go_wp2_with fail
  refine (refam_b _ false HA.out _).mono ?_
  rintro e w' ⟨rfl, rfl⟩
  go_wp2_with fail
  refine (refcur_b _ bx HX.out _).mono ?_
  rintro e w' ⟨rfl, rfl⟩
  go_wp2_with fail
  go_ret2
  exact ⟨rfl, rfl⟩

set_option maxHeartbeats 400000 in
theorem reftext_n2 (c x : Int) (w : World) (ha : am c = true) (hx : cur x = false) :
    Calls Tryz.prog 14 #[.int .i64 c, .int .i64 x] w fun e w' => e = .returned (.tuple #[.string ⟨#[]⟩, .int .i64 1]) ∧ w = w' := by
  have HA := Lib.hid ha
  have HX := Lib.hid hx
  clear ha hx
  go_enter Tryz.func14, Tryz.ntmps14
  go_wp2_with fail
  refine (refam_b _ true HA.out _).mono ?_
  rintro e w' ⟨rfl, rfl⟩
  go_wp2_with fail
  refine (refcur_b _ false HX.out _).mono ?_
  rintro e w' ⟨rfl, rfl⟩
  go_wp2_with fail
  go_ret2
  exact ⟨rfl, rfl⟩

theorem reftext_ok (c x : Int) (w : World) (ha : am c = true) (hx : cur x = true) :
    Calls Tryz.prog 14 #[.int .i64 c, .int .i64 x] w fun e w' => e = .returned (.tuple #[.string (mtc c x), .int .i64 0]) ∧ Below w.heap.size w w' := by
  by_cases h : c < 0
  · have e : c = -(-c) := by omega
    rw [e] at ha h ⊢
    exact reftext_neg (-c) x w ha hx h
  · exact reftext_pos c x w ha hx h
theorem reftext_bad (c x : Int) (w : World) (h : (am c && cur x) = false) :
    Calls Tryz.prog 14 #[.int .i64 c, .int .i64 x] w fun e w' => e = .returned (.tuple #[.string ⟨#[]⟩, .int .i64 1]) ∧ w = w' := by
  cases ha : am c with
  | false => exact reftext_n1 c x w ha _ rfl
  | true => exact reftext_n2 c x w ha (by rw [ha] at h; simpa using h)
end Go.Proofs.YtanncjkkaeeiaaaGreatDoor
