/-
  Package rational: Text returns the text of a number, or ErrArg; Parse the number of a text, or ErrForm.
-/
import Derived.Test.YtpmlfchbihoflaaDoorRatK
import Derived.Test.YtpmlfchbihoflaaDoorRatM
namespace Go.Proofs.YtpmlfchbihoflaaDoor
open Go.RowKit Go.Sort
open Go.RowKit (Below)

set_option maxRecDepth 100000 in
set_option maxHeartbeats 400000 in
theorem textW_ok (x0 : Nat) (a b : Int) (w : World) (ha : I64 a) (hb : I64 b) (hs : St w) (g0 : w.cell? ⟨x0, 0, none⟩ = some (.int .i64 a)) (g1 : w.cell? ⟨x0, 1, none⟩ = some (.int .i64 b)) (hv : vld a b = true) :
    Calls Tryd.prog 46 #[.pointer (some ⟨x0, 0, none⟩)] w fun e w' => e = .returned (.string (txt a b)) ∧ Below w.heap.size w w' := by
  have l0 := block_lt g0
  have HV := Lib.hid hv; clear hv
  have HS := Lib.hid hs; clear hs
  go_enter Tryd.func46, Tryd.ntmps46
  go_wp2_with fail
  refine (require1_ok _ a b _ ha hb (by simp [go_sem]) (by simp [go_sem]) HV.out).mono ?_
  rintro e w1 ⟨rfl, hb1⟩
  obtain ⟨h1, h2⟩ := bcell hb1
  have k0 : w1.cell? ⟨x0, 0, none⟩ = some (.int .i64 a) := by rw [h1 _ _ (by simp; omega)]; simp [go_sem, l0, g0]
  have k1 : w1.cell? ⟨x0, 1, none⟩ = some (.int .i64 b) := by rw [h1 _ _ (by simp; omega)]; simp [go_sem, l0, g1]
  clear h1 h2 g0 g1
  have hb2 : Below w.heap.size w w1 := ((Below.refl _ _).alloc (Nat.le_refl _) _).trans (hb1.mono (by simp))
  have HS1 := Lib.hid (HS.out.below hb2 HS.out.sz)
  go_wp2_with fail
  refine (write_any a b ha hb _ HS1.out).mono ?_
  rintro e w2 ⟨rfl, hb3⟩
  go_wp2_with fail
  go_ret
  exact ⟨rfl, hb2.trans (hb3.mono hb2.size)⟩

set_option maxRecDepth 100000 in
set_option maxHeartbeats 400000 in
theorem textW_arg (x0 : Nat) (a b : Int) (w : World) (ha : I64 a) (hb : I64 b) (g0 : w.cell? ⟨x0, 0, none⟩ = some (.int .i64 a)) (g1 : w.cell? ⟨x0, 1, none⟩ = some (.int .i64 b)) (hv : vld a b = false) :
    Calls Tryd.prog 46 #[.pointer (some ⟨x0, 0, none⟩)] w fun e w' => e = raise 1 ∧ Below w.heap.size w w' := by
  have l0 := block_lt g0
  have HV := Lib.hid hv; clear hv
  go_enter Tryd.func46, Tryd.ntmps46
  go_wp2_with fail
  refine (require1_err _ a b _ ha hb (by simp [go_sem]) (by simp [go_sem]) HV.out).mono ?_
  rintro e w1 ⟨rfl, hb1⟩
  go_wp2_with fail
  exact ⟨rfl, rfl, ((Below.refl _ _).alloc (Nat.le_refl _) _).trans (hb1.mono (by simp))⟩

theorem text_enter (cap : Array Value) (W : World) : (callFunc 46 cap).run Tryd.prog W = .ok (.enter 46 cap) W := by simp [go_sem]
def textR (v : Bool) (a b : Int) : ByteArray := if v = true then txt a b else ⟨#[]⟩

set_option maxRecDepth 100000 in
set_option maxHeartbeats 400000 in
theorem text_any (a b : Int) (w : World) (ha : I64 a) (hb : I64 b) (hs : St w) :
    Calls Tryd.prog 22 #[.agg #[.int .i64 a, .int .i64 b]] w
      fun e w' => e = .returned (.tuple #[.string (textR (vld a b) a b), .int .i64 (cmpE (vld a b))]) ∧ Below w.heap.size w w' := by
  have hmf : ∀ (fn : Fn) (first cap : Array Value) (w : World), (Instr.makeFunc fn first cap).run Tryd.prog w = .ok (.func fn first cap) w := fun _ _ _ _ => rfl
  have hat : ∀ W0 : World, Below w.heap.size w W0 → W0.cell? ⟨w.heap.size, 0, none⟩ = some (.int .i64 a) → W0.cell? ⟨w.heap.size, 1, none⟩ = some (.int .i64 b) →
      Calls Tryd.prog 45 #[.func (.func 46) #[] #[.pointer (some ⟨w.heap.size, 0, none⟩)]] W0
        fun e w' => e = .returned (.tuple #[.string (textR (vld a b) a b), .int .i64 (cmpE (vld a b))]) ∧ Below W0.heap.size W0 w' := by
    intro W0 hW0 c1 c2
    by_cases hv : vld a b = true
    · rw [show textR (vld a b) a b = txt a b by simp [textR, hv], show cmpE (vld a b) = 0 by simp [cmpE, hv]]
      refine attemptS_ok _ _ _ _ (text_enter _) fun W hW => ?_
      exact textW_ok _ a b W ha hb (hs.below (hW0.trans (hW.mono hW0.size)) hs.sz) (by rw [hW.cell (block_lt c1)]; exact c1) (by rw [hW.cell (block_lt c2)]; exact c2) hv
    · rw [show textR (vld a b) a b = ⟨#[]⟩ by simp only [textR, if_neg hv], show cmpE (vld a b) = 1 by simp only [cmpE, if_neg hv]]
      refine attemptS_err _ _ _ _ (text_enter _) fun W hW => ?_
      exact textW_arg _ a b W ha hb (by rw [hW.cell (block_lt c1)]; exact c1) (by rw [hW.cell (block_lt c2)]; exact c2) (by simpa using hv)
  have HA := Lib.hid hat; clear hat
  generalize textR (vld a b) a b = rN at *
  generalize cmpE (vld a b) = rE at *
  go_enter Tryd.func22, Tryd.ntmps22
  go_wp2_with fail
  refine (HA.out _ ((Below.refl _ _).alloc (Nat.le_refl _) _) (by simp [go_sem]) (by simp [go_sem])).mono ?_
  rintro e w1 ⟨rfl, hb⟩
  go_wp2_with fail
  go_ret2
  exact ⟨rfl, ((Below.refl _ _).alloc (Nat.le_refl _) _).trans (hb.mono (by simp))⟩

theorem below_bytes (w : World) (e : TypeId) (s : ByteArray) : Below w.heap.size w (Lib.bytesWorld w e s) :=
  ⟨rfl, rfl, rfl, by rw [Lib.bytesWorld_size]; omega, fun k hk => Lib.bytesWorld_at_old w e s k hk⟩

set_option maxRecDepth 100000 in
set_option maxHeartbeats 400000 in
theorem readInt_ok (s : ByteArray) (v : Int) (hl : s.size ≤ 281474976710656) (h : rdI s.data.toList = some v) (w : World) :
    Calls Tryd.prog 59 #[.string s] w fun e w' => e = .returned (.int .i64 v) ∧ Below w.heap.size w w' := by
  have h' : Lib.atoiAll s.data.toList = .ok v := by
    unfold rdI at h
    split at h
    · rename_i v' hv; rw [hv]; injection h with h; rw [h]
    · cases h
  have H := Lib.hid h'; clear h h'
  go_enter Tryd.func59, Tryd.ntmps59
  go_wp2_with fail
  refine (Tryd.strconv_Atoi_ok s (by omega) v H.out _).mono ?_
  rintro e w1 ⟨rfl, hw⟩
  have hb : Below w.heap.size w w1 := by
    rcases hw with rfl | ⟨t, rfl⟩
    · exact Below.refl _ _
    · exact below_bytes _ _ _
  clear hw
  go_wp2
  go_ret
  exact ⟨rfl, hb⟩

set_option maxRecDepth 100000 in
set_option maxHeartbeats 400000 in
theorem readInt_err (s : ByteArray) (hl : s.size ≤ 281474976710656) (h : rdI s.data.toList = none) (w : World) (hs : St w) :
    Calls Tryd.prog 59 #[.string s] w fun e w' => e = raise 8 ∧ Below w.heap.size w w' := by
  have hat : Calls Tryd.prog 62 #[.string s] w fun e w' => ∃ x N, e = .returned (.tuple #[.int .i64 x, .iface 86 (.pointer (some ⟨N, 0, none⟩))]) ∧ Below w.heap.size w w' := by
    have hok : ∀ v, Lib.atoiAll s.data.toList ≠ .ok v := fun v hc => by simp [rdI, hc] at h
    by_cases hc : Lib.atoiAll s.data.toList = .range
    · obtain ⟨te, pe, hev⟩ := hs.er
      exact (Tryd.strconv_Atoi_range s hl hc _ w hev (.inr ⟨_, _, rfl⟩)).mono fun e w' ⟨N, h1, _, _, h4⟩ => ⟨_, N, h1, h4⟩
    · obtain ⟨te, pe, hev⟩ := hs.es
      exact (Tryd.strconv_Atoi_bad s hl hok hc _ w hev (.inr ⟨_, _, rfl⟩)).mono fun e w' ⟨N, h1, _, _, h4⟩ => ⟨_, N, h1, h4⟩
  have H := Lib.hid hat; clear h hat hs
  go_enter Tryd.func59, Tryd.ntmps59
  go_wp2_with fail
  refine H.out.mono ?_
  rintro e w1 ⟨x, N, rfl, hb⟩
  go_wp2
  exact ⟨rfl, rfl, hb⟩
end Go.Proofs.YtpmlfchbihoflaaDoor
