/-
  strings.Cut at a separator of one byte, for strings of up to 2^47 bytes.
-/
import Derived.Test.YtpmlfchbihoflaaDoorRatN
import Derived.Lib.CutLaws
import Derived.Lib.IndexBytes
namespace Go.Proofs.YtpmlfchbihoflaaDoor
open Go.RowKit Go.Sort
open Go.RowKit (Below)

theorem litecut_one (s : ByteArray) (hs : s.size < 140737488355328) (w : World) :
    Calls Tryd.prog 61 #[.string s, .string ⟨#[47]⟩] w fun e w' => e = .returned (.tuple #[.string ⟨(Lib.cut s.data.toList [47]).1.toArray⟩, .string ⟨(Lib.cut s.data.toList [47]).2.1.toArray⟩, .bool (Lib.cut s.data.toList [47]).2.2]) ∧ ∃ n, w' = w.drewN n := by
  have hone : ∀ W, Calls Tryd.prog 64 #[.string s, .string ⟨#[47]⟩] W fun e w' => e = .returned (.int .i64 (Lib.index s.data.toList [47])) ∧ w' = W := by
    intro W
    have h := Lib.one s ⟨#[47]⟩ rfl
    rw [show Lib.index s.data.toList [47] = _ from h]
    exact Tryd.stringslite_Index_one s 47 W
  have HO := Lib.hid hone
  clear hone
  rcases Lib.indexB_cases s ⟨#[47]⟩ with hix | ⟨i, hix, hroom⟩
  · obtain ⟨e1, e2, e3⟩ := Lib.cutB_miss s ⟨#[47]⟩ hix
    rw [show Lib.index s.data.toList [47] = _ from hix] at HO
    change Calls _ _ _ _ fun e w' => e = .returned (.tuple #[.string ⟨(Lib.cut s.data.toList (⟨#[47]⟩ : ByteArray).data.toList).1.toArray⟩, .string ⟨(Lib.cut s.data.toList (⟨#[47]⟩ : ByteArray).data.toList).2.1.toArray⟩, .bool (Lib.cut s.data.toList (⟨#[47]⟩ : ByteArray).data.toList).2.2]) ∧ ∃ n, w' = w.drewN n
    rw [e1, e2, e3]
    go_enter Tryd.func61, Tryd.ntmps61
    go_wp2_with fail
    refine (HO.out _).mono ?_
    rintro e w' ⟨rfl, rfl⟩
    go_wp2_with fail
    go_ret3
    exact ⟨rfl, 0, rfl⟩
  · obtain ⟨e1, e2, e3⟩ := Lib.cutB_hit s ⟨#[47]⟩ i hix
    rw [show Lib.index s.data.toList [47] = _ from hix] at HO
    change Calls _ _ _ _ fun e w' => e = .returned (.tuple #[.string ⟨(Lib.cut s.data.toList (⟨#[47]⟩ : ByteArray).data.toList).1.toArray⟩, .string ⟨(Lib.cut s.data.toList (⟨#[47]⟩ : ByteArray).data.toList).2.1.toArray⟩, .bool (Lib.cut s.data.toList (⟨#[47]⟩ : ByteArray).data.toList).2.2]) ∧ ∃ n, w' = w.drewN n
    rw [e1, e2, e3]
    have c1 : (0 : Int) ≤ ↑i := by omega
    have c2 : (↑i : Int) ≤ ↑s.size := by omega
    have c3 : (0 : Int) ≤ ↑i + 1 := by omega
    have hr : i + 1 ≤ s.size := hroom
    have hw : IntKind.i64.wrap ((i : Int) + 1) = (i : Int) + 1 := IntWalk.i64_in _ ⟨by omega, by omega⟩
    have c4 : (↑i + 1 : Int) ≤ ↑s.size := by omega
    go_enter Tryd.func61, Tryd.ntmps61
    go_wp2_with fail
    refine (HO.out _).mono ?_
    rintro e w' ⟨rfl, rfl⟩
    go_wp2_with fail
    go_region
    go_wp2
    go_ret3
    exact ⟨rfl, 1, rfl⟩

theorem cut_one (s : ByteArray) (hs : s.size < 140737488355328) (w : World) :
    Calls Tryd.prog 58 #[.string s, .string ⟨#[47]⟩] w fun e w' => e = .returned (.tuple #[.string ⟨(Lib.cut s.data.toList [47]).1.toArray⟩, .string ⟨(Lib.cut s.data.toList [47]).2.1.toArray⟩, .bool (Lib.cut s.data.toList [47]).2.2]) ∧ ∃ n, w' = w.drewN n := by
  have HL := Lib.hid (litecut_one s hs)
  go_enter Tryd.func58, Tryd.ntmps58
  go_wp2_with fail
  refine (HL.out _).mono ?_
  rintro e w' ⟨rfl, n, rfl⟩
  go_wp2_with fail
  go_ret3
  exact ⟨rfl, n, rfl⟩
end Go.Proofs.YtpmlfchbihoflaaDoor
