/-
  Package digest: Root.
-/
import Derived.Test.YtpplpnmammpkpaaDoorDigF
namespace Go.Proofs.YtpplpnmammpkpaaDoor
open Go.RowKit Go.Sort
open Go.RowKit (Below)
set_option linter.unusedVariables false

def lenV : Value → Nat
  | .slice _ n _ => n
  | _ => 0
/-- The root of leaves. -/
def rtV (xs : List Int) : Int := if lvE xs.length = 0 then rootL (xs.map leafN) else 0
theorem lvE_ok {n : Nat} : lvE n = 0 ↔ 0 < n ∧ n ≤ 1024 := by unfold lvE; split <;> (try split) <;> omega
theorem leaves_u (xs : List Int) : ∀ x ∈ xs.map leafN, U64 x := by
  intro x hx
  obtain ⟨y, _, rfl⟩ := List.mem_map.1 hx
  exact leafN_u y
/-- A level: numbers of 64 bits, at least one. -/
structure Lvl (l : List Int) : Prop where
  pos : 0 < l.length
  few : l.length ≤ 1024
  u : ∀ x ∈ l, U64 x
theorem Lvl.up {l : List Int} (h : Lvl l) : Lvl (up l) := ⟨by have := h.pos; rw [up_len]; omega, by have := h.few; have := h.pos; rw [up_len]; omega, up_u h.u⟩
theorem ret_uv {a b c d : Int} (h : a = b) (h' : c = d) : Ending.returned (.tuple #[.int .u64 a, .int .i64 c]) = .returned (.tuple #[.int .u64 b, .int .i64 d]) := by rw [h, h']

set_option maxRecDepth 100000 in
set_option maxHeartbeats 800000 in
theorem root_any (A : Option Addr) (C : Nat) (xs : List Int) (w : World) (hl : xs.length ≤ 9223372036854775807) (hu : ∀ x ∈ xs, U64 x) (h : Sk .u64 w A xs) :
    Calls Tryd.prog 15 #[.slice A xs.length C] w fun e w' => e = .returned (.tuple #[.int .u64 (rtV xs), .int .i64 (lvE xs.length)]) ∧ Below w.heap.size w w' := by
  have H := Lib.hid h
  have HU := Lib.hid hu
  clear h hu
  by_cases h0 : lvE xs.length = 0
  · have hL := lvE_ok.1 h0
    have HV := Lib.hid (show rootL (xs.map leafN) = rtV xs by unfold rtV; rw [if_pos h0])
    have HL := Lib.hid (show Lvl (xs.map leafN) from ⟨by simp; omega, by simp; omega, leaves_u xs⟩)
    have HE := Lib.hid h0
    have HR := Lib.hid (refuse_any A C xs.length w (by omega))
    rw [h0] at HR
    clear h0
    go_enter Tryd.func15, Tryd.ntmps15
    go_wp2_with fail
    refine (HR.out).mono ?_
    rintro e w' ⟨rfl, rfl⟩
    go_wp2_with fail
    refine (lowest_any A C xs _ (by omega) HU.out H.out).mono ?_
    rintro e w1 ⟨A1, C1, rfl, _, _, ⟨hs1, _⟩, hb1⟩
    generalize xs.map leafN = l0 at *
    go_wp2_with fail
    go_loopw [5] (fun v wr => ∃ A' C' l, v = .slice A' (List.length l) C' ∧ Hid (rootL l = rtV xs ∧ Lvl l ∧ Sk .u64 wr A' l) ∧ Below w.heap.size w wr) (fun v _ => lenV v)
    case atStart => exact ⟨A1, C1, l0, rfl, ⟨HV.out, HL.out, hs1⟩, hb1⟩
    case round =>
      obtain ⟨A', C', l, rfl, HI, hb⟩ := hrel
      have hfew := HI.out.2.1.few
      have hpos := HI.out.2.1.pos
      clear hs1 hb1
      by_cases h1 : 1 < l.length
      · go_wp2_with fail
        refine (above_any A' C' l _ (by omega) HI.out.2.1.u HI.out.2.2).mono ?_
        rintro e w2 ⟨A2, C2, rfl, _, _, ⟨hs2, _⟩, hb2⟩
        have HN := Lib.hid (show rootL (up l) = rtV xs ∧ Lvl (up l) ∧ Sk .u64 w2 A2 (up l) from ⟨by rw [← rootL_up h1]; exact HI.out.1, HI.out.2.1.up, hs2⟩)
        have hB := on_below hb hb2
        have hm : (up l).length < l.length := by rw [up_len]; omega
        clear hs2 hb2 HI hb
        go_wp2_with fail
        go_roundw
        case rel => exact ⟨A2, C2, up l, rfl, HN, hB⟩
        case measure => simpa [lenV] using hm
      · obtain ⟨b, o, rfl, hc⟩ := HI.out.2.2 0 hpos
        rw [Nat.add_zero] at hc
        have HX := Lib.hid (show gd l 0 = rtV xs by rw [← rootL_one h1]; exact HI.out.1)
        have hp : 0 < l.length := hpos
        go_wp2_with fail
        go_ret2
        exact ⟨ret_uv HX.out HE.out.symm, hb⟩
  · have HV := Lib.hid (show (0 : Int) = rtV xs by unfold rtV; rw [if_neg h0])
    have h0' : ¬ lvE xs.length = 0 := h0
    have hne : (lvE xs.length == 0) = false := by rw [beq_eq_false_iff_ne]; exact h0
    have hne2 : (lvE xs.length != 0) = true := by simpa using h0
    have HR := Lib.hid (refuse_any A C xs.length w (by omega))
    generalize lvE xs.length = E at *
    clear h0'
    go_enter Tryd.func15, Tryd.ntmps15
    go_wp2_with fail
    refine (HR.out).mono ?_
    rintro e w' ⟨rfl, rfl⟩
    go_wp2_with fail
    go_ret2
    exact ⟨ret_uv HV.out rfl, Below.refl _ _⟩
end Go.Proofs.YtpplpnmammpkpaaDoor
