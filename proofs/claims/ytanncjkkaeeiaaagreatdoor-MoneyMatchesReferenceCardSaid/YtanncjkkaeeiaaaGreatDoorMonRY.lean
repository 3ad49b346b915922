/-
  The reference of package money: Parse answers as that of package money does.
-/
import Derived.Test.YtanncjkkaeeiaaaGreatDoorMonRX
namespace Go.Proofs.YtanncjkkaeeiaaaGreatDoor
open Go.RowKit Go.Sort
open Go.RowKit (Below)
set_option linter.unusedVariables false

theorem names_0 (w : World) : Calls Tryz.prog 31 #[.int .i64 0] w fun e w' => e = .returned (.string ⟨#[67, 72, 70, 32]⟩) ∧ w = w' := names_any 0 (by decide) w
theorem names_1 (w : World) : Calls Tryz.prog 31 #[.int .i64 1] w fun e w' => e = .returned (.string ⟨#[69, 85, 82, 32]⟩) ∧ w = w' := names_any 1 (by decide) w
/-- What number gives of T. -/
def Nums (T : ByteArray) (n e : Int) : Prop := ∀ W : World, Calls Tryz.prog 35 #[.string T] W fun x w' => x = .returned (.tuple #[.int .i64 n, .int .i64 e]) ∧ W = w'

set_option maxRecDepth 100000 in
set_option maxHeartbeats 400000 in
theorem refparse_short (s : ByteArray) (w : World) (hl : s.size ≤ 200) (h1 : (s.size : Int) < 4) :
    Calls Tryz.prog 18 #[.string s] w fun e w' => e = .returned (.tuple #[.int .i64 0, .int .i64 0, .int .i64 8]) ∧ Below w.heap.size w w' := by
  go_enter Tryz.func18, Tryz.ntmps18
  go_wp2
  go_ret3
  exact ⟨rfl, Below.refl _ _⟩

set_option maxRecDepth 100000 in
set_option maxHeartbeats 400000 in
theorem refparse_no (s : ByteArray) (w : World) (hl : s.size ≤ 200) (h1 : 4 ≤ s.size) (h2 : ((s.extract 0 4).toList == [69, 85, 82, 32]) = false) (h3 : ((s.extract 0 4).toList == [67, 72, 70, 32]) = false) :
    Calls Tryz.prog 18 #[.string s] w fun e w' => e = .returned (.tuple #[.int .i64 0, .int .i64 0, .int .i64 8]) ∧ Below w.heap.size w w' := by
  go_enter Tryz.func18, Tryz.ntmps18
  go_wp2_with fail
  go_quiet ((go_at_call 31; exact quiet_left (names_0 _)))
  go_wp2
  go_ret3
  exact ⟨rfl, below_drewN' (Below.refl _ _) _⟩

set_option maxRecDepth 100000 in
set_option maxHeartbeats 400000 in
theorem refparse_ch0 (s : ByteArray) (w : World) (hl : s.size ≤ 200) (h1 : 4 ≤ s.size) (h2 : ((s.extract 0 4).toList == [69, 85, 82, 32]) = false) (h3 : ((s.extract 0 4).toList == [67, 72, 70, 32]) = true) (n : Int) (hn : Nums (s.extract 4 s.size) n 0) :
    Calls Tryz.prog 18 #[.string s] w fun e w' => e = .returned (.tuple #[.int .i64 n, .int .i64 0, .int .i64 0]) ∧ Below w.heap.size w w' := by
  have HN := Lib.hid hn; clear hn
  go_enter Tryz.func18, Tryz.ntmps18
  go_wp2_with fail
  go_quiet ((go_at_call 31; exact quiet_left (names_0 _)))
  go_wp2_with fail
  refine (HN.out _).mono ?_
  rintro e w' ⟨rfl, rfl⟩
  go_wp2_with fail
  go_ret3
  exact ⟨rfl, below_drewN' (Below.refl _ _) _⟩

set_option maxRecDepth 100000 in
set_option maxHeartbeats 400000 in
theorem refparse_chE (s : ByteArray) (w : World) (hl : s.size ≤ 200) (h1 : 4 ≤ s.size) (h2 : ((s.extract 0 4).toList == [69, 85, 82, 32]) = false) (h3 : ((s.extract 0 4).toList == [67, 72, 70, 32]) = true) (n x : Int) (hx : (x != 0) = true) (hn : Nums (s.extract 4 s.size) n x) :
    Calls Tryz.prog 18 #[.string s] w fun e w' => e = .returned (.tuple #[.int .i64 0, .int .i64 0, .int .i64 x]) ∧ Below w.heap.size w w' := by
  have HN := Lib.hid hn; clear hn
  go_enter Tryz.func18, Tryz.ntmps18
  go_wp2_with fail
  go_quiet ((go_at_call 31; exact quiet_left (names_0 _)))
  go_wp2_with fail
  refine (HN.out _).mono ?_
  rintro e w' ⟨rfl, rfl⟩
  go_wp2_with fail
  go_ret3
  exact ⟨rfl, below_drewN' (Below.refl _ _) _⟩

set_option maxRecDepth 100000 in
set_option maxHeartbeats 400000 in
theorem refparse_eu0 (s : ByteArray) (w : World) (hl : s.size ≤ 200) (h1 : 4 ≤ s.size) (h2 : ((s.extract 0 4).toList == [69, 85, 82, 32]) = true) (n : Int) (hn : Nums (s.extract 4 s.size) n 0) :
    Calls Tryz.prog 18 #[.string s] w fun e w' => e = .returned (.tuple #[.int .i64 n, .int .i64 1, .int .i64 0]) ∧ Below w.heap.size w w' := by
  have HN := Lib.hid hn; clear hn
  go_enter Tryz.func18, Tryz.ntmps18
  go_wp2_with fail
  go_quiet ((go_at_call 31; exact quiet_left (names_1 _)))
  go_wp2_with fail
  refine (HN.out _).mono ?_
  rintro e w' ⟨rfl, rfl⟩
  go_wp2_with fail
  go_ret3
  exact ⟨rfl, below_drewN' (Below.refl _ _) _⟩

set_option maxRecDepth 100000 in
set_option maxHeartbeats 400000 in
theorem refparse_euE (s : ByteArray) (w : World) (hl : s.size ≤ 200) (h1 : 4 ≤ s.size) (h2 : ((s.extract 0 4).toList == [69, 85, 82, 32]) = true) (n x : Int) (hx : (x != 0) = true) (hn : Nums (s.extract 4 s.size) n x) :
    Calls Tryz.prog 18 #[.string s] w fun e w' => e = .returned (.tuple #[.int .i64 0, .int .i64 0, .int .i64 x]) ∧ Below w.heap.size w w' := by
  have HN := Lib.hid hn; clear hn
  go_enter Tryz.func18, Tryz.ntmps18
  go_wp2_with fail
  go_quiet ((go_at_call 31; exact quiet_left (names_1 _)))
  go_wp2_with fail
  refine (HN.out _).mono ?_
  rintro e w' ⟨rfl, rfl⟩
  go_wp2_with fail
  go_ret3
  exact ⟨rfl, below_drewN' (Below.refl _ _) _⟩

theorem refparse_any (s : ByteArray) (hl : s.size ≤ 200) (w : World) :
    Calls Tryz.prog 18 #[.string s] w fun e w' => e = .returned (.tuple #[.int .i64 (pN s.data.toList), .int .i64 (pK s.data.toList), .int .i64 (pE s.data.toList)]) ∧ Below w.heap.size w w' := by
  have rc := Lib.hasPrefix_raw s chs
  have re := Lib.hasPrefix_raw s eus
  rw [show chs.size = 4 from rfl, show chs.toList = [67, 72, 70, 32] by rw [ByteArray.toList_eq]] at rc
  rw [show eus.size = 4 from rfl, show eus.toList = [69, 85, 82, 32] by rw [ByteArray.toList_eq]] at re
  change _ = chp s.data.toList at rc
  change _ = eup s.data.toList at re
  have eN : (chp s.data.toList || eup s.data.toList) = true → pN s.data.toList = rcN (s.data.toList.drop 4) := fun h => if_pos h
  have eE : (chp s.data.toList || eup s.data.toList) = true → pE s.data.toList = rcE (s.data.toList.drop 4) := fun h => if_pos h
  have fN : ¬ (chp s.data.toList || eup s.data.toList) = true → pN s.data.toList = 0 := fun h => if_neg h
  have fE : ¬ (chp s.data.toList || eup s.data.toList) = true → pE s.data.toList = 8 := fun h => if_neg h
  have eK : (eup s.data.toList = true ∧ rcE (s.data.toList.drop 4) = 0) → pK s.data.toList = 1 := fun h => if_pos h
  have fK : ¬ (eup s.data.toList = true ∧ rcE (s.data.toList.drop 4) = 0) → pK s.data.toList = 0 := fun h => if_neg h
  by_cases h4 : 4 ≤ s.size
  · rw [decide_eq_true h4, Bool.true_and] at rc re
    have hd : (s.extract 4 s.size).data.toList = s.data.toList.drop 4 := by
      rw [Lib.extract_data]
      exact List.take_of_length_le (by rw [List.length_drop, len_data]; omega)
    have hn : Nums (s.extract 4 s.size) (rcN (s.data.toList.drop 4)) (rcE (s.data.toList.drop 4)) := fun W => by
      have := number_any (s.extract 4 s.size) (by rw [ByteArray.size_extract]; omega) W
      rwa [hd] at this
    have hE : rcE (s.data.toList.drop 4) ≠ 0 → rcN (s.data.toList.drop 4) = 0 := rc_err
    cases he : eup s.data.toList with
    | true =>
      rw [he] at re
      rw [eN (by simp [he]), eE (by simp [he])]
      by_cases h0 : rcE (s.data.toList.drop 4) = 0
      · rw [eK ⟨he, h0⟩, h0]
        rw [h0] at hn
        exact refparse_eu0 s w hl h4 re _ hn
      · rw [fK (fun h => h0 h.2), hE h0]
        exact refparse_euE s w hl h4 re _ _ (by rw [bne_iff_ne]; exact h0) hn
    | false =>
      rw [he] at re
      cases hc : chp s.data.toList with
      | true =>
        rw [hc] at rc
        rw [eN (by simp [hc]), eE (by simp [hc]), fK (by simp [he])]
        by_cases h0 : rcE (s.data.toList.drop 4) = 0
        · rw [h0]
          rw [h0] at hn
          exact refparse_ch0 s w hl h4 re rc _ hn
        · rw [hE h0]
          exact refparse_chE s w hl h4 re rc _ _ (by rw [bne_iff_ne]; exact h0) hn
      | false =>
        rw [hc] at rc
        rw [fN (by simp [hc, he]), fE (by simp [hc, he]), fK (by simp [he])]
        exact refparse_no s w hl h4 re rc
  · rw [decide_eq_false h4, Bool.false_and] at rc re
    rw [fN (by simp [← rc, ← re]), fE (by simp [← rc, ← re]), fK (by simp [← re])]
    exact refparse_short s w hl (by omega)
end Go.Proofs.YtanncjkkaeeiaaaGreatDoor
