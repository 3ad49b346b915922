/-
  Challenges, of the package and of the reference.
-/
import Derived.Test.YtiapigoknlaihaaDoorSgnC
import Derived.Test.YtiapigoknlaihaaDoorSgnK
namespace Go.Proofs.YtiapigoknlaihaaDoor
open Go.RowKit Go.Sort
open Go.RowKit (Below)
set_option linter.unusedVariables false
set_option linter.unusedSimpArgs false

/-- The challenge of two elements and a message. -/
def chV (r p : Int) (msg : List Int) : Int := dig (txs (r :: p :: msg)) % 1073741789
theorem chV_bd (r p : Int) (msg : List Int) : 0 ≤ chV r p msg ∧ chV r p msg < 1073741789 := by unfold chV; omega
theorem i64_info : (Tryd.prog.info? 3).map (fun i => (i.zero, i.size, i.bytes)) = some (some (.int .i64 0), 1, 8) := by kernel_rfl
theorem i_cons {x : Int} {l : List Int} (hx : I64 x) (h : ∀ y ∈ l, I64 y) : ∀ y ∈ x :: l, I64 y := by
  intro y hy
  rcases List.mem_cons.1 hy with rfl | hy
  · exact hx
  · exact h y hy

set_option maxRecDepth 100000 in
set_option maxHeartbeats 1000000 in
theorem challenge_any (r p : Int) (hr : I64 r) (hp : I64 p) (A : Option Addr) (C : Nat) (msg : List Int) (V : Int) (hV : chV r p msg = V) (w : World) (hs : St w) (hl : msg.length ≤ 1000) (hi : ∀ x ∈ msg, I64 x) (h : Sk .i64 w A msg) :
    Calls Tryd.prog 28 #[.int .i64 r, .int .i64 p, .slice A msg.length C] w fun e w' => e = .returned (.int .i64 V) ∧ Below w.heap.size w w' := by
  obtain ⟨i0, hi0, hz0, hz1, hz2⟩ := info_parts i64_info
  have HI := Lib.hid (i_cons hr (i_cons hp hi))
  have HS := Lib.hid hs
  have own0 := own_new w #[.int .i64 r, .int .i64 p] 3 (Nat.le_refl _) (by unfold maxLen; simp)
  have hb2 : Below w.heap.size w (w.alloc (.cells #[.int .i64 r, .int .i64 p] 3)) := (Below.refl _ _).alloc (Nat.le_refl _) _
  have hs1 := Lib.hid (h.below hb2)
  obtain ⟨D, hD⟩ : ∃ D, dig (txs (r :: p :: msg)) = D := ⟨_, rfl⟩
  have HD := Lib.hid hD
  obtain ⟨d1, d2⟩ := hD ▸ dig_u (txs (r :: p :: msg))
  have HV := Lib.hid (show D % 1073741789 = V by rw [← hD]; exact hV)
  have f1 : IntKind.i64.wrap (D % 1073741789) = D % 1073741789 := IntWalk.i64_in _ ⟨by omega, by omega⟩
  clear hD hV hi hr hp hs h
  go_enter Tryd.func28, Tryd.ntmps28
  go_wp2_with (at_builtin; refine wpList_append_sk _ rfl (.tmp 10) (.tmp 11) 24 rfl w.heap.size 3 i0 .i64 8 Tryd.underlying24 hi0 hz0 hz1 hz2 _ (2) ([.int .i64 r, .int .i64 p]) rfl own0 A C msg rfl hs1.out (by unfold maxLen; omega) (by omega) (hb2).size ?_; intro v2 w2 own2 gr2 _; have b2 := app_below (hb2) (hb2).size own0 (Nat.le_refl _) gr2)
  obtain ⟨A2, C2, rfl, _, _, hs2, _⟩ := own_sk (xs := r :: p :: msg) (by simpa using own2)
  clear own0 own2 gr2 hb2 hs1
  refine (ints_any A2 C2 (r :: p :: msg) _ (HS.out.on b2) (by simp; omega) HI.out hs2).mono ?_
  rintro e w' ⟨rfl, hb⟩
  rw [HD.out]
  have hB := on_below b2 hb
  clear hs2 b2 hb
  go_wp2_with fail
  go_ret
  exact ⟨ret_int HV.out, hB⟩

set_option maxRecDepth 100000 in
set_option maxHeartbeats 1000000 in
theorem rchallenge_any (r p : Int) (hr : I64 r) (hp : I64 p) (A : Option Addr) (C : Nat) (msg : List Int) (V : Int) (hV : chV r p msg = V) (w : World) (hl : msg.length ≤ 900) (hi : ∀ x ∈ msg, I64 x) (h : Sk .i64 w A msg) :
    Calls Tryd.prog 21 #[.int .i64 r, .int .i64 p, .slice A msg.length C] w fun e w' => e = .returned (.int .i64 V) ∧ Below w.heap.size w w' := by
  obtain ⟨i0, hi0, hz0, hz1, hz2⟩ := info_parts i64_info
  have HI := Lib.hid (i_cons hr (i_cons hp hi))
  have H := Lib.hid h
  have own0 := own_new w #[.int .i64 r, .int .i64 p] 3 (Nat.le_refl _) (by unfold maxLen; simp)
  have hb2 : Below w.heap.size w (w.alloc (.cells #[.int .i64 r, .int .i64 p] 3)) := (Below.refl _ _).alloc (Nat.le_refl _) _
  obtain ⟨D, hD⟩ : ∃ D, dig (txs (r :: p :: msg)) = D := ⟨_, rfl⟩
  have HD := Lib.hid hD
  obtain ⟨d1, d2⟩ := hD ▸ dig_u (txs (r :: p :: msg))
  have HV := Lib.hid (show D % 1073741789 = V by rw [← hD]; exact hV)
  have f1 : IntKind.i64.wrap (D % 1073741789) = D % 1073741789 := IntWalk.i64_in _ ⟨by omega, by omega⟩
  clear hD hV hi hr hp h
  go_enter Tryd.func21, Tryd.ntmps21
  go_wp2_with fail
  go_loopw [7, 8] (fun v i wr => ∃ k : Nat, k ≤ msg.length ∧ i = .int .i64 k ∧ wr.ownsRow w.heap.size 3 1 v (2 + k) ((r :: p :: msg.take k).map (Value.int .i64)) ∧ Below w.heap.size w wr) (fun _ i _ => msg.length - (intOf i).toNat)
  case atStart => exact ⟨0, Nat.zero_le _, rfl, own0, hb2⟩
  case round =>
    obtain ⟨k, hk, rfl, ownZ, bZ⟩ := hrel
    clear own0 hb2
    by_cases hlt : k < msg.length
    · obtain ⟨b, o, rfl, hc0⟩ := H.out k hlt
      have hc : wr.cell? ⟨b, o + k, none⟩ = some (.int .i64 (gd msg k)) := cell_on bZ (block_lt hc0) hc0
      have HT := Lib.hid (show (r :: p :: msg.take k).map (Value.int .i64) ++ [.int .i64 (gd msg k)] = (r :: p :: msg.take (k + 1)).map (Value.int .i64) by rw [take_k hlt]; simp)
      generalize gd msg k = x at *
      generalize (r :: p :: msg.take k).map (Value.int .i64) = M at *
      clear hc0
      go_wp2_with (at_builtin; (refine wpList_append_own _ rfl (.tmp 19) (.tmp 24) 24 rfl w.heap.size 3 i0 (.int .i64 0) 1 8 Tryd.underlying24 hi0 hz0 hz1 hz2 rfl (by decide) _ _ _ rfl (ownZ.alloc _) ⟨wr.heap.size, 0, none⟩ 1 1 [.int .i64 x] rfl rfl (new_k _ _ _) one_k (by unfold maxLen; omega) (by omega) (by have := bZ.size; simp <;> omega) ?_; intro va wa owna gra nna; clear nna; have ba := app_below (bZ.alloc (by have := bZ.size; omega) _) (by have := bZ.size; simp <;> omega) (ownZ.alloc _) (Nat.le_refl _) gra; clear gra))
      rw [HT.out] at owna
      go_roundw
      case rel => exact ⟨k + 1, by omega, by go_num, owna, ba⟩
      case measure => simp [intOf]; omega
    · rw [List.take_of_length_le (by omega)] at ownZ
      obtain ⟨A2, C2, rfl, _, _, hs2, _⟩ := own_sk ownZ
      go_wp2_with fail
      refine (rints_any A2 C2 (r :: p :: msg) _ (by simp; omega) HI.out hs2).mono ?_
      rintro e w' ⟨rfl, hb⟩
      rw [HD.out]
      have hB := on_below bZ hb
      clear hs2 bZ hb
      go_wp2_with fail
      go_ret
      exact ⟨ret_int HV.out, hB⟩
end Go.Proofs.YtiapigoknlaihaaDoor
