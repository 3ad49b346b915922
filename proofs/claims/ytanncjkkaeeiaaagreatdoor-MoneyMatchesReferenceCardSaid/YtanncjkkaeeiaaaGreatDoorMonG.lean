/-
  Package money: Split, for all ints and lists.
-/
import Derived.Test.YtanncjkkaeeiaaaGreatDoorMonF
namespace Go.Proofs.YtanncjkkaeeiaaaGreatDoor
open Go.RowKit Go.Sort
open Go.RowKit (Below)

/-- What Split returns where it divides. -/
def SplitOk (c : Int) (ws : List Int) (w : World) (e : Ending) (w' : World) : Prop :=
  ∃ pb, e = .returned (.tuple #[.slice (some ⟨pb, 0, none⟩) ws.length ws.length, .int .i64 0]) ∧ w.heap.size ≤ pb ∧ Row w' pb ws.length (fun j => sgd c (part c.natAbs ws j)) ∧ Below w.heap.size w w'

theorem wts_len {ws : List Int} (h : wts ws = true) : 1 ≤ ws.length := by
  obtain ⟨_, _, h3⟩ := wts_iff.1 h
  cases ws with
  | nil => simp at h3
  | cons a l => simp

set_option maxHeartbeats 400000 in
theorem split_ok (c : Int) (A : Option Addr) (cap : Nat) (ws : List Int) (w : World) (hc : am c = true) (hw : wts ws = true) (hS : Sl w A ws) :
    Calls Tryz.prog 10 #[.int .i64 c, .slice A ws.length cap] w (SplitOk c ws w) := by
  obtain ⟨h1, h2, h3⟩ := wts_iff.1 hw
  have HD := Lib.hid (divide_any c A cap ws w (am_bd.1 hc) (wts_len hw) h1 h2 h3 hS)
  have HC := Lib.hid hc
  have HW := Lib.hid hw
  have HS := Lib.hid hS
  clear hc hw hS h2 h3
  go_enter Tryz.func10, Tryz.ntmps10
  go_wp2_with (first
    | (go_at_call 19; refine (valid_amt_b _ true HC.out _).mono ?_; rintro e w' ⟨rfl, rfl⟩)
    | (go_at_call 25; refine (wts_b _ _ _ true HW.out _ (by omega) HS.out).mono ?_; rintro e w' ⟨rfl, rfl⟩)
    | (go_at_call 26; refine HD.out.mono ?_; rintro e w' ⟨pb, rfl, hpb, hrow, hbel⟩))
  go_ret2
  exact ⟨pb, rfl, hpb, hrow, hbel⟩

set_option maxHeartbeats 400000 in
theorem split_bad (c : Int) (A : Option Addr) (cap : Nat) (ws : List Int) (w : World) (hl : ws.length ≤ 9223372036854775807) (h : (am c && wts ws) = false) (hS : Sl w A ws) :
    Calls Tryz.prog 10 #[.int .i64 c, .slice A ws.length cap] w fun e w' => e = .returned (.tuple #[.slice none 0 0, .int .i64 1]) ∧ w = w' := by
  have HS := Lib.hid hS
  clear hS
  cases hc : am c with
  | false =>
    have HC := Lib.hid hc
    clear hc h
    go_enter Tryz.func10, Tryz.ntmps10
    go_wp2_with (first
      | (go_at_call 19; refine (valid_amt_b _ false HC.out _).mono ?_; rintro e w' ⟨rfl, rfl⟩))
    go_ret2
    exact ⟨rfl, rfl⟩
  | true =>
    have hw : wts ws = false := by rw [hc] at h; simpa using h
    have HC := Lib.hid hc
    have HW := Lib.hid hw
    clear hc hw h
    go_enter Tryz.func10, Tryz.ntmps10
    go_wp2_with (first
      | (go_at_call 19; refine (valid_amt_b _ true HC.out _).mono ?_; rintro e w' ⟨rfl, rfl⟩)
      | (go_at_call 25; refine (wts_b _ _ _ false HW.out _ hl HS.out).mono ?_; rintro e w' ⟨rfl, rfl⟩))
    go_ret2
    exact ⟨rfl, rfl⟩
end Go.Proofs.YtanncjkkaeeiaaaGreatDoor
