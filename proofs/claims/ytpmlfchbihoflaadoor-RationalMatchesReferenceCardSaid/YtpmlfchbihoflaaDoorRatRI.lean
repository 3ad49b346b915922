/-
  The reference of package rational: Parse, way by way.
-/
import Derived.Test.YtpmlfchbihoflaaDoorRatRH
namespace Go.Proofs.YtpmlfchbihoflaaDoor
open Go.RowKit Go.Sort
open Go.RowKit (Below)

section
variable {w w' : World} {g h o : Nat} {N D x : Int} {v : Value}
theorem Lc.put0 (p : Lc w g N D) : Lc (w.setCell ⟨g, 0, none⟩ (.int .i64 x)) g x D := by
  obtain ⟨⟨c0, c1⟩, f0, f1⟩ := p
  refine ⟨⟨?_, ?_⟩, by rw [World.frozen?_setCell]; exact f0, by rw [World.frozen?_setCell]; exact f1⟩
  · simp [go_sem, c0]
  · simp [go_sem, c1]
theorem Lc.put1 (p : Lc w g N D) : Lc (w.setCell ⟨g, 1, none⟩ (.int .i64 x)) g N x := by
  obtain ⟨⟨c0, c1⟩, f0, f1⟩ := p
  refine ⟨⟨?_, ?_⟩, by rw [World.frozen?_setCell]; exact f0, by rw [World.frozen?_setCell]; exact f1⟩
  · simp [go_sem, c0]
  · simp [go_sem, c1]
theorem Lc.far (p : Lc w g N D) (ne : g ≠ h) : Lc (w.setCell ⟨h, o, none⟩ v) g N D :=
  ⟨⟨by rw [World.cell?_setCell_far _ _ _ _ (by simp; omega)]; exact p.1.1, by rw [World.cell?_setCell_far _ _ _ _ (by simp; omega)]; exact p.1.2⟩,
   by rw [World.frozen?_setCell]; exact p.2.1, by rw [World.frozen?_setCell]; exact p.2.2⟩
end

set_option maxRecDepth 100000 in
set_option maxHeartbeats 800000 in
theorem refparse_e0_A (s : ByteArray) (w : World) (_hl : s.size < 140737488355328) (h0 : s.size = 0) (p : Nat) (hne : ∀ i (hi : i < s.size), i < p → ((s[i].toNat : Int) != 47) = true) (hp : p ≤ s.size) (hp2 : s.size ≤ p) (n : Int) (_hn1 : 0 ≤ n) (_hn2 : n ≤ 9999999999) (hnum : ∀ W, Calls Tryd.prog 51 #[.string (s.extract 0 p)] W fun e w' => e = .returned (.tuple #[.int .i64 n, .bool false]) ∧ Below W.heap.size W w') :
    Calls Tryd.prog 25 #[.string s] w fun e w' => e = .returned (.tuple #[.agg #[.int .i64 0, .int .i64 0], .int .i64 8]) ∧ Below w.heap.size w w' := by
  have H := Lib.hid hne; clear hne
  have HN := Lib.hid hnum; clear hnum
  go_enter Tryd.func25, Tryd.ntmps25
  go_wp2
  go_loopw [5] (fun a wr => ∃ k : Nat, k ≤ p ∧ a = .int .i64 k ∧ wr = w.alloc (.cells #[.int .i64 0, .int .i64 0] 23)) (fun b _ => s.size - (intOf b).toNat)
  case atStart => exact ⟨0, by omega, rfl, rfl⟩
  case round =>
    obtain ⟨k, hk, rfl, rfl⟩ := hrel
    by_cases hlt : k < p
    · have hls : k < s.size := by omega
      have hc := H.out k hls hlt
      omega
    · obtain rfl : k = p := by omega
      go_wp2_with fail
      refine (HN.out _).mono ?_
      rintro e w1 ⟨rfl, hb1⟩
      have B1 : Below w.heap.size w w1 := ((Below.refl _ _).alloc (Nat.le_refl _) _).trans (hb1.mono (by simp))
      have Z1 : Lc w1 w.heap.size 0 0 := Lc.new hb1
      have s1 : w.heap.size < w1.heap.size := Z1.lt
      obtain ⟨⟨z0, z1⟩, f0, f1⟩ := Z1
      go_wp2
      refine bodyPost_ret (v := .tuple #[.agg #[.int .i64 0, .int .i64 0], .int .i64 8]) (by simp [results, Tryd.results25, go_sem, z0, z1, s1]) rfl ⟨rfl, ?_⟩
      first | exact ((B1.setCell (Nat.le_refl _) _).setCell (Nat.le_refl _) _).alloc (by simp; omega) _ | exact ((B1.alloc B1.size _).setCell (Nat.le_refl _) _).setCell (Nat.le_refl _) _

set_option maxRecDepth 100000 in
set_option maxHeartbeats 800000 in
theorem refparse_p0_A (s : ByteArray) (w : World) (hl : s.size < 140737488355328) (h0 : 0 < s.size) (hm : ((s[0].toNat : Int) == 45) = false) (p : Nat) (hne : ∀ i (hi : i < s.size), i < p → ((s[i].toNat : Int) != 47) = true) (hp : p ≤ s.size) (hp2 : s.size ≤ p) (n : Int) (_hn1 : 0 ≤ n) (_hn2 : n ≤ 9999999999) (hnum : ∀ W, Calls Tryd.prog 51 #[.string (s.extract 0 p)] W fun e w' => e = .returned (.tuple #[.int .i64 n, .bool false]) ∧ Below W.heap.size W w') :
    Calls Tryd.prog 25 #[.string s] w fun e w' => e = .returned (.tuple #[.agg #[.int .i64 0, .int .i64 0], .int .i64 8]) ∧ Below w.heap.size w w' := by
  have H := Lib.hid hne; clear hne
  have HN := Lib.hid hnum; clear hnum
  go_enter Tryd.func25, Tryd.ntmps25
  go_wp2
  go_loopw [5] (fun a wr => ∃ k : Nat, k ≤ p ∧ a = .int .i64 k ∧ wr = w.alloc (.cells #[.int .i64 0, .int .i64 0] 23)) (fun b _ => s.size - (intOf b).toNat)
  case atStart => exact ⟨0, by omega, rfl, rfl⟩
  case round =>
    obtain ⟨k, hk, rfl, rfl⟩ := hrel
    by_cases hlt : k < p
    · have hls : k < s.size := by omega
      have hc := H.out k hls hlt
      go_wp2
      go_roundw
      case rel => exact ⟨k + 1, by omega, by go_num, by first | rfl | trivial⟩
      case measure => simp [intOf]; omega
    · obtain rfl : k = p := by omega
      go_wp2_with fail
      refine (HN.out _).mono ?_
      rintro e w1 ⟨rfl, hb1⟩
      have B1 : Below w.heap.size w w1 := ((Below.refl _ _).alloc (Nat.le_refl _) _).trans (hb1.mono (by simp))
      have Z1 : Lc w1 w.heap.size 0 0 := Lc.new hb1
      have s1 : w.heap.size < w1.heap.size := Z1.lt
      obtain ⟨⟨z0, z1⟩, f0, f1⟩ := Z1
      go_wp2
      refine bodyPost_ret (v := .tuple #[.agg #[.int .i64 0, .int .i64 0], .int .i64 8]) (by simp [results, Tryd.results25, go_sem, z0, z1, s1]) rfl ⟨rfl, ?_⟩
      first | exact ((B1.setCell (Nat.le_refl _) _).setCell (Nat.le_refl _) _).alloc (by simp; omega) _ | exact ((B1.alloc B1.size _).setCell (Nat.le_refl _) _).setCell (Nat.le_refl _) _

set_option maxRecDepth 100000 in
set_option maxHeartbeats 800000 in
theorem refparse_p0_E (s : ByteArray) (w : World) (hl : s.size < 140737488355328) (h0 : 0 < s.size) (hm : ((s[0].toNat : Int) == 45) = false) (p : Nat) (hne : ∀ i (hi : i < s.size), i < p → ((s[i].toNat : Int) != 47) = true) (hp : p ≤ s.size) (hp2 : s.size ≤ p) (n : Int) (_hn1 : 0 ≤ n) (_hn2 : n ≤ 9999999999) (hnum : ∀ W, Calls Tryd.prog 51 #[.string (s.extract 0 p)] W fun e w' => e = .returned (.tuple #[.int .i64 n, .bool true]) ∧ Below W.heap.size W w') (hval : ∀ W, Calls Tryd.prog 7 #[.agg #[.int .i64 n, .int .i64 1]] W fun e w' => e = .returned (.bool false) ∧ Below W.heap.size W w') :
    Calls Tryd.prog 25 #[.string s] w fun e w' => e = .returned (.tuple #[.agg #[.int .i64 0, .int .i64 0], .int .i64 8]) ∧ Below w.heap.size w w' := by
  have H := Lib.hid hne; clear hne
  have HN := Lib.hid hnum; clear hnum
  have HV := Lib.hid hval; clear hval
  go_enter Tryd.func25, Tryd.ntmps25
  go_wp2
  go_loopw [5] (fun a wr => ∃ k : Nat, k ≤ p ∧ a = .int .i64 k ∧ wr = w.alloc (.cells #[.int .i64 0, .int .i64 0] 23)) (fun b _ => s.size - (intOf b).toNat)
  case atStart => exact ⟨0, by omega, rfl, rfl⟩
  case round =>
    obtain ⟨k, hk, rfl, rfl⟩ := hrel
    by_cases hlt : k < p
    · have hls : k < s.size := by omega
      have hc := H.out k hls hlt
      go_wp2
      go_roundw
      case rel => exact ⟨k + 1, by omega, by go_num, by first | rfl | trivial⟩
      case measure => simp [intOf]; omega
    · obtain rfl : k = p := by omega
      go_wp2_with fail
      refine (HN.out _).mono ?_
      rintro e w1 ⟨rfl, hb1⟩
      have B1 : Below w.heap.size w w1 := ((Below.refl _ _).alloc (Nat.le_refl _) _).trans (hb1.mono (by simp))
      have Z1 : Lc w1 w.heap.size 0 0 := Lc.new hb1
      have s1 : w.heap.size < w1.heap.size := Z1.lt
      go_wp2_with fail
      refine (HV.out _).mono ?_
      rintro e w3 ⟨rfl, hb3⟩
      have R3 : Lc w3 w1.heap.size n 1 := Lc.new hb3
      have Z3 : Lc w3 w.heap.size 0 0 := Z1.next hb3
      have B3 : Below w.heap.size w w3 := (B1.alloc B1.size _).trans (hb3.mono (by simp; omega))
      obtain ⟨⟨z0, z1⟩, f0, f1⟩ := Z3
      obtain ⟨⟨p0, p1⟩, o0, o1⟩ := R3
      clear s1 Z1
      go_wp2
      refine bodyPost_ret (v := .tuple #[.agg #[.int .i64 0, .int .i64 0], .int .i64 8]) (by simp [results, Tryd.results25, go_sem, z0, z1]) rfl ⟨rfl, ?_⟩
      exact (B3.setCell (Nat.le_refl _) _).setCell (Nat.le_refl _) _

set_option maxRecDepth 100000 in
set_option maxHeartbeats 800000 in
theorem refparse_p0_F (s : ByteArray) (w : World) (hl : s.size < 140737488355328) (h0 : 0 < s.size) (hm : ((s[0].toNat : Int) == 45) = false) (p : Nat) (hne : ∀ i (hi : i < s.size), i < p → ((s[i].toNat : Int) != 47) = true) (hp : p ≤ s.size) (hp2 : s.size ≤ p) (n : Int) (_hn1 : 0 ≤ n) (_hn2 : n ≤ 9999999999) (hnum : ∀ W, Calls Tryd.prog 51 #[.string (s.extract 0 p)] W fun e w' => e = .returned (.tuple #[.int .i64 n, .bool true]) ∧ Below W.heap.size W w') (hval : ∀ W, Calls Tryd.prog 7 #[.agg #[.int .i64 n, .int .i64 1]] W fun e w' => e = .returned (.bool true) ∧ Below W.heap.size W w') :
    Calls Tryd.prog 25 #[.string s] w fun e w' => e = .returned (.tuple #[.agg #[.int .i64 n, .int .i64 1], .int .i64 0]) ∧ Below w.heap.size w w' := by
  have H := Lib.hid hne; clear hne
  have HN := Lib.hid hnum; clear hnum
  have HV := Lib.hid hval; clear hval
  go_enter Tryd.func25, Tryd.ntmps25
  go_wp2
  go_loopw [5] (fun a wr => ∃ k : Nat, k ≤ p ∧ a = .int .i64 k ∧ wr = w.alloc (.cells #[.int .i64 0, .int .i64 0] 23)) (fun b _ => s.size - (intOf b).toNat)
  case atStart => exact ⟨0, by omega, rfl, rfl⟩
  case round =>
    obtain ⟨k, hk, rfl, rfl⟩ := hrel
    by_cases hlt : k < p
    · have hls : k < s.size := by omega
      have hc := H.out k hls hlt
      go_wp2
      go_roundw
      case rel => exact ⟨k + 1, by omega, by go_num, by first | rfl | trivial⟩
      case measure => simp [intOf]; omega
    · obtain rfl : k = p := by omega
      go_wp2_with fail
      refine (HN.out _).mono ?_
      rintro e w1 ⟨rfl, hb1⟩
      have B1 : Below w.heap.size w w1 := ((Below.refl _ _).alloc (Nat.le_refl _) _).trans (hb1.mono (by simp))
      have Z1 : Lc w1 w.heap.size 0 0 := Lc.new hb1
      have s1 : w.heap.size < w1.heap.size := Z1.lt
      go_wp2_with fail
      refine (HV.out _).mono ?_
      rintro e w3 ⟨rfl, hb3⟩
      have R3 : Lc w3 w1.heap.size n 1 := Lc.new hb3
      have Z3 : Lc w3 w.heap.size 0 0 := Z1.next hb3
      have B3 : Below w.heap.size w w3 := (B1.alloc B1.size _).trans (hb3.mono (by simp; omega))
      obtain ⟨⟨z0, z1⟩, f0, f1⟩ := Z3
      obtain ⟨⟨p0, p1⟩, o0, o1⟩ := R3
      clear s1 Z1
      go_wp2
      refine bodyPost_ret (v := .tuple #[.agg #[.int .i64 n, .int .i64 1], .int .i64 0]) (by simp [results, Tryd.results25, go_sem, z0, z1]) rfl ⟨rfl, ?_⟩
      exact (B3.setCell (Nat.le_refl _) _).setCell (Nat.le_refl _) _

set_option maxRecDepth 100000 in
set_option maxHeartbeats 800000 in
theorem refparse_m0_A (s : ByteArray) (w : World) (hl : s.size < 140737488355328) (h0 : 0 < s.size) (hm : ((s[0].toNat : Int) == 45) = true) (t : ByteArray) (ht : s.extract 1 s.size = t) (hl2 : t.size < 140737488355328) (p : Nat) (hne : ∀ i (hi : i < t.size), i < p → ((t[i].toNat : Int) != 47) = true) (hp : p ≤ t.size) (hp2 : t.size ≤ p) (n : Int) (hn1 : 0 ≤ n) (hn2 : n ≤ 9999999999) (hnum : ∀ W, Calls Tryd.prog 51 #[.string (t.extract 0 p)] W fun e w' => e = .returned (.tuple #[.int .i64 n, .bool false]) ∧ Below W.heap.size W w') :
    Calls Tryd.prog 25 #[.string s] w fun e w' => e = .returned (.tuple #[.agg #[.int .i64 0, .int .i64 0], .int .i64 8]) ∧ Below w.heap.size w w' := by
  have H := Lib.hid hne; clear hne
  have HN := Lib.hid hnum; clear hnum
  go_enter Tryd.func25, Tryd.ntmps25
  go_wp2
  go_loopw [5] (fun a wr => ∃ k : Nat, k ≤ p ∧ a = .int .i64 k ∧ wr = w.alloc (.cells #[.int .i64 0, .int .i64 0] 23)) (fun b _ => t.size - (intOf b).toNat)
  case atStart => exact ⟨0, by omega, rfl, rfl⟩
  case round =>
    obtain ⟨k, hk, rfl, rfl⟩ := hrel
    by_cases hlt : k < p
    · have hls : k < t.size := by omega
      have hc := H.out k hls hlt
      go_wp2
      go_roundw
      case rel => exact ⟨k + 1, by omega, by go_num, by first | rfl | trivial⟩
      case measure => simp [intOf]; omega
    · obtain rfl : k = p := by omega
      go_wp2_with fail
      refine (HN.out _).mono ?_
      rintro e w1 ⟨rfl, hb1⟩
      have B1 : Below w.heap.size w w1 := ((Below.refl _ _).alloc (Nat.le_refl _) _).trans (hb1.mono (by simp))
      have Z1 : Lc w1 w.heap.size 0 0 := Lc.new hb1
      have s1 : w.heap.size < w1.heap.size := Z1.lt
      obtain ⟨⟨z0, z1⟩, f0, f1⟩ := Z1
      go_wp2
      refine bodyPost_ret (v := .tuple #[.agg #[.int .i64 0, .int .i64 0], .int .i64 8]) (by simp [results, Tryd.results25, go_sem, z0, z1, s1]) rfl ⟨rfl, ?_⟩
      first | exact ((B1.setCell (Nat.le_refl _) _).setCell (Nat.le_refl _) _).alloc (by simp; omega) _ | exact ((B1.alloc B1.size _).setCell (Nat.le_refl _) _).setCell (Nat.le_refl _) _

set_option maxRecDepth 100000 in
set_option maxHeartbeats 800000 in
theorem refparse_m0_D (s : ByteArray) (w : World) (hl : s.size < 140737488355328) (h0 : 0 < s.size) (hm : ((s[0].toNat : Int) == 45) = true) (t : ByteArray) (ht : s.extract 1 s.size = t) (hl2 : t.size < 140737488355328) (p : Nat) (hne : ∀ i (hi : i < t.size), i < p → ((t[i].toNat : Int) != 47) = true) (hp : p ≤ t.size) (hp2 : t.size ≤ p) (n : Int) (hn1 : 0 ≤ n) (hn2 : n ≤ 9999999999) (hnum : ∀ W, Calls Tryd.prog 51 #[.string (t.extract 0 p)] W fun e w' => e = .returned (.tuple #[.int .i64 n, .bool true]) ∧ Below W.heap.size W w') (h2 : ((n : Int) != 0) = false) :
    Calls Tryd.prog 25 #[.string s] w fun e w' => e = .returned (.tuple #[.agg #[.int .i64 0, .int .i64 0], .int .i64 8]) ∧ Below w.heap.size w w' := by
  have H := Lib.hid hne; clear hne
  have HN := Lib.hid hnum; clear hnum
  go_enter Tryd.func25, Tryd.ntmps25
  go_wp2
  go_loopw [5] (fun a wr => ∃ k : Nat, k ≤ p ∧ a = .int .i64 k ∧ wr = w.alloc (.cells #[.int .i64 0, .int .i64 0] 23)) (fun b _ => t.size - (intOf b).toNat)
  case atStart => exact ⟨0, by omega, rfl, rfl⟩
  case round =>
    obtain ⟨k, hk, rfl, rfl⟩ := hrel
    by_cases hlt : k < p
    · have hls : k < t.size := by omega
      have hc := H.out k hls hlt
      go_wp2
      go_roundw
      case rel => exact ⟨k + 1, by omega, by go_num, by first | rfl | trivial⟩
      case measure => simp [intOf]; omega
    · obtain rfl : k = p := by omega
      go_wp2_with fail
      refine (HN.out _).mono ?_
      rintro e w1 ⟨rfl, hb1⟩
      have B1 : Below w.heap.size w w1 := ((Below.refl _ _).alloc (Nat.le_refl _) _).trans (hb1.mono (by simp))
      have Z1 : Lc w1 w.heap.size 0 0 := Lc.new hb1
      have s1 : w.heap.size < w1.heap.size := Z1.lt
      obtain ⟨⟨z0, z1⟩, f0, f1⟩ := Z1
      go_wp2
      refine bodyPost_ret (v := .tuple #[.agg #[.int .i64 0, .int .i64 0], .int .i64 8]) (by simp [results, Tryd.results25, go_sem, z0, z1, s1]) rfl ⟨rfl, ?_⟩
      first | exact ((B1.setCell (Nat.le_refl _) _).setCell (Nat.le_refl _) _).alloc (by simp; omega) _ | exact ((B1.alloc B1.size _).setCell (Nat.le_refl _) _).setCell (Nat.le_refl _) _

set_option maxRecDepth 100000 in
set_option maxHeartbeats 800000 in
theorem refparse_m0_E (s : ByteArray) (w : World) (hl : s.size < 140737488355328) (h0 : 0 < s.size) (hm : ((s[0].toNat : Int) == 45) = true) (t : ByteArray) (ht : s.extract 1 s.size = t) (hl2 : t.size < 140737488355328) (p : Nat) (hne : ∀ i (hi : i < t.size), i < p → ((t[i].toNat : Int) != 47) = true) (hp : p ≤ t.size) (hp2 : t.size ≤ p) (n : Int) (hn1 : 0 ≤ n) (hn2 : n ≤ 9999999999) (hnum : ∀ W, Calls Tryd.prog 51 #[.string (t.extract 0 p)] W fun e w' => e = .returned (.tuple #[.int .i64 n, .bool true]) ∧ Below W.heap.size W w') (h2 : ((n : Int) != 0) = true) (hval : ∀ W, Calls Tryd.prog 7 #[.agg #[.int .i64 (-n), .int .i64 1]] W fun e w' => e = .returned (.bool false) ∧ Below W.heap.size W w') :
    Calls Tryd.prog 25 #[.string s] w fun e w' => e = .returned (.tuple #[.agg #[.int .i64 0, .int .i64 0], .int .i64 8]) ∧ Below w.heap.size w w' := by
  have H := Lib.hid hne; clear hne
  have HN := Lib.hid hnum; clear hnum
  have HV := Lib.hid hval; clear hval
  go_enter Tryd.func25, Tryd.ntmps25
  go_wp2
  go_loopw [5] (fun a wr => ∃ k : Nat, k ≤ p ∧ a = .int .i64 k ∧ wr = w.alloc (.cells #[.int .i64 0, .int .i64 0] 23)) (fun b _ => t.size - (intOf b).toNat)
  case atStart => exact ⟨0, by omega, rfl, rfl⟩
  case round =>
    obtain ⟨k, hk, rfl, rfl⟩ := hrel
    by_cases hlt : k < p
    · have hls : k < t.size := by omega
      have hc := H.out k hls hlt
      go_wp2
      go_roundw
      case rel => exact ⟨k + 1, by omega, by go_num, by first | rfl | trivial⟩
      case measure => simp [intOf]; omega
    · obtain rfl : k = p := by omega
      go_wp2_with fail
      refine (HN.out _).mono ?_
      rintro e w1 ⟨rfl, hb1⟩
      have B1 : Below w.heap.size w w1 := ((Below.refl _ _).alloc (Nat.le_refl _) _).trans (hb1.mono (by simp))
      have Z1 : Lc w1 w.heap.size 0 0 := Lc.new hb1
      have s1 : w.heap.size < w1.heap.size := Z1.lt
      go_wp2_with fail
      refine (HV.out _).mono ?_
      rintro e w3 ⟨rfl, hb3⟩
      have R3 : Lc w3 w1.heap.size (-n) 1 := Lc.new hb3
      have Z3 : Lc w3 w.heap.size 0 0 := Z1.next hb3
      have B3 : Below w.heap.size w w3 := (B1.alloc B1.size _).trans (hb3.mono (by simp; omega))
      obtain ⟨⟨z0, z1⟩, f0, f1⟩ := Z3
      obtain ⟨⟨p0, p1⟩, o0, o1⟩ := R3
      clear s1 Z1
      go_wp2
      refine bodyPost_ret (v := .tuple #[.agg #[.int .i64 0, .int .i64 0], .int .i64 8]) (by simp [results, Tryd.results25, go_sem, z0, z1]) rfl ⟨rfl, ?_⟩
      exact (B3.setCell (Nat.le_refl _) _).setCell (Nat.le_refl _) _

set_option maxRecDepth 100000 in
set_option maxHeartbeats 800000 in
theorem refparse_m0_F (s : ByteArray) (w : World) (hl : s.size < 140737488355328) (h0 : 0 < s.size) (hm : ((s[0].toNat : Int) == 45) = true) (t : ByteArray) (ht : s.extract 1 s.size = t) (hl2 : t.size < 140737488355328) (p : Nat) (hne : ∀ i (hi : i < t.size), i < p → ((t[i].toNat : Int) != 47) = true) (hp : p ≤ t.size) (hp2 : t.size ≤ p) (n : Int) (hn1 : 0 ≤ n) (hn2 : n ≤ 9999999999) (hnum : ∀ W, Calls Tryd.prog 51 #[.string (t.extract 0 p)] W fun e w' => e = .returned (.tuple #[.int .i64 n, .bool true]) ∧ Below W.heap.size W w') (h2 : ((n : Int) != 0) = true) (hval : ∀ W, Calls Tryd.prog 7 #[.agg #[.int .i64 (-n), .int .i64 1]] W fun e w' => e = .returned (.bool true) ∧ Below W.heap.size W w') :
    Calls Tryd.prog 25 #[.string s] w fun e w' => e = .returned (.tuple #[.agg #[.int .i64 (-n), .int .i64 1], .int .i64 0]) ∧ Below w.heap.size w w' := by
  have H := Lib.hid hne; clear hne
  have HN := Lib.hid hnum; clear hnum
  have HV := Lib.hid hval; clear hval
  go_enter Tryd.func25, Tryd.ntmps25
  go_wp2
  go_loopw [5] (fun a wr => ∃ k : Nat, k ≤ p ∧ a = .int .i64 k ∧ wr = w.alloc (.cells #[.int .i64 0, .int .i64 0] 23)) (fun b _ => t.size - (intOf b).toNat)
  case atStart => exact ⟨0, by omega, rfl, rfl⟩
  case round =>
    obtain ⟨k, hk, rfl, rfl⟩ := hrel
    by_cases hlt : k < p
    · have hls : k < t.size := by omega
      have hc := H.out k hls hlt
      go_wp2
      go_roundw
      case rel => exact ⟨k + 1, by omega, by go_num, by first | rfl | trivial⟩
      case measure => simp [intOf]; omega
    · obtain rfl : k = p := by omega
      go_wp2_with fail
      refine (HN.out _).mono ?_
      rintro e w1 ⟨rfl, hb1⟩
      have B1 : Below w.heap.size w w1 := ((Below.refl _ _).alloc (Nat.le_refl _) _).trans (hb1.mono (by simp))
      have Z1 : Lc w1 w.heap.size 0 0 := Lc.new hb1
      have s1 : w.heap.size < w1.heap.size := Z1.lt
      go_wp2_with fail
      refine (HV.out _).mono ?_
      rintro e w3 ⟨rfl, hb3⟩
      have R3 : Lc w3 w1.heap.size (-n) 1 := Lc.new hb3
      have Z3 : Lc w3 w.heap.size 0 0 := Z1.next hb3
      have B3 : Below w.heap.size w w3 := (B1.alloc B1.size _).trans (hb3.mono (by simp; omega))
      obtain ⟨⟨z0, z1⟩, f0, f1⟩ := Z3
      obtain ⟨⟨p0, p1⟩, o0, o1⟩ := R3
      clear s1 Z1
      go_wp2
      refine bodyPost_ret (v := .tuple #[.agg #[.int .i64 (-n), .int .i64 1], .int .i64 0]) (by simp [results, Tryd.results25, go_sem, z0, z1]) rfl ⟨rfl, ?_⟩
      exact (B3.setCell (Nat.le_refl _) _).setCell (Nat.le_refl _) _

set_option maxRecDepth 100000 in
set_option maxHeartbeats 800000 in
theorem refparse_p1_A (s : ByteArray) (w : World) (hl : s.size < 140737488355328) (h0 : 0 < s.size) (hm : ((s[0].toNat : Int) == 45) = false) (p : Nat) (hne : ∀ i (hi : i < s.size), i < p → ((s[i].toNat : Int) != 47) = true) (hp : p < s.size) (hq : ((s[p].toNat : Int) != 47) = false) (n : Int) (_hn1 : 0 ≤ n) (_hn2 : n ≤ 9999999999) (hnum : ∀ W, Calls Tryd.prog 51 #[.string (s.extract 0 p)] W fun e w' => e = .returned (.tuple #[.int .i64 n, .bool false]) ∧ Below W.heap.size W w') (fine : Bool) (d : Int) (hden : ∀ W, Calls Tryd.prog 51 #[.string (s.extract (p + 1) s.size)] W fun e w' => e = .returned (.tuple #[.int .i64 d, .bool fine]) ∧ Below W.heap.size W w') :
    Calls Tryd.prog 25 #[.string s] w fun e w' => e = .returned (.tuple #[.agg #[.int .i64 0, .int .i64 0], .int .i64 8]) ∧ Below w.heap.size w w' := by
  have H := Lib.hid hne; clear hne
  have HN := Lib.hid hnum; clear hnum
  have HD := Lib.hid hden; clear hden
  go_enter Tryd.func25, Tryd.ntmps25
  go_wp2
  go_loopw [5] (fun a wr => ∃ k : Nat, k ≤ p ∧ a = .int .i64 k ∧ wr = w.alloc (.cells #[.int .i64 0, .int .i64 0] 23)) (fun b _ => s.size - (intOf b).toNat)
  case atStart => exact ⟨0, by omega, rfl, rfl⟩
  case round =>
    obtain ⟨k, hk, rfl, rfl⟩ := hrel
    by_cases hlt : k < p
    · have hls : k < s.size := by omega
      have hc := H.out k hls hlt
      go_wp2
      go_roundw
      case rel => exact ⟨k + 1, by omega, by go_num, by first | rfl | trivial⟩
      case measure => simp [intOf]; omega
    · obtain rfl : k = p := by omega
      go_wp2_with fail
      refine (HN.out _).mono ?_
      rintro e w1 ⟨rfl, hb1⟩
      have B1 : Below w.heap.size w w1 := ((Below.refl _ _).alloc (Nat.le_refl _) _).trans (hb1.mono (by simp))
      have Z1 : Lc w1 w.heap.size 0 0 := Lc.new hb1
      have s1 : w.heap.size < w1.heap.size := Z1.lt
      go_wp2_with fail
      refine (HD.out _).mono ?_
      rintro e w2 ⟨rfl, hb2⟩
      have Z2 : Lc w2 w.heap.size 0 0 := Z1.next hb2
      have R2 : Lc w2 w1.heap.size n 1 := Lc.new hb2
      have B2 : Below w.heap.size w w2 := (B1.alloc B1.size _).trans (hb2.mono (by simp; omega))
      have s2 : w1.heap.size < w2.heap.size := R2.lt
      have ne1 : ¬ w.heap.size = w1.heap.size := by omega
      have ne2 : ¬ w1.heap.size = w.heap.size := by omega
      obtain ⟨⟨p0, p1⟩, o0, o1⟩ := R2
      obtain ⟨⟨z0, z1⟩, f0, f1⟩ := Z2
      clear Z1
      go_wp2
      refine bodyPost_ret (v := .tuple #[.agg #[.int .i64 0, .int .i64 0], .int .i64 8]) (by simp [results, Tryd.results25, go_sem, z0, z1]) rfl ⟨rfl, ?_⟩
      exact (((B2.setCell B1.size _).setCell (Nat.le_refl _) _).setCell (Nat.le_refl _) _)

set_option maxRecDepth 100000 in
set_option maxHeartbeats 800000 in
theorem refparse_p1_B (s : ByteArray) (w : World) (hl : s.size < 140737488355328) (h0 : 0 < s.size) (hm : ((s[0].toNat : Int) == 45) = false) (p : Nat) (hne : ∀ i (hi : i < s.size), i < p → ((s[i].toNat : Int) != 47) = true) (hp : p < s.size) (hq : ((s[p].toNat : Int) != 47) = false) (n : Int) (_hn1 : 0 ≤ n) (_hn2 : n ≤ 9999999999) (hnum : ∀ W, Calls Tryd.prog 51 #[.string (s.extract 0 p)] W fun e w' => e = .returned (.tuple #[.int .i64 n, .bool true]) ∧ Below W.heap.size W w') (d : Int) (hden : ∀ W, Calls Tryd.prog 51 #[.string (s.extract (p + 1) s.size)] W fun e w' => e = .returned (.tuple #[.int .i64 d, .bool false]) ∧ Below W.heap.size W w') :
    Calls Tryd.prog 25 #[.string s] w fun e w' => e = .returned (.tuple #[.agg #[.int .i64 0, .int .i64 0], .int .i64 8]) ∧ Below w.heap.size w w' := by
  have H := Lib.hid hne; clear hne
  have HN := Lib.hid hnum; clear hnum
  have HD := Lib.hid hden; clear hden
  go_enter Tryd.func25, Tryd.ntmps25
  go_wp2
  go_loopw [5] (fun a wr => ∃ k : Nat, k ≤ p ∧ a = .int .i64 k ∧ wr = w.alloc (.cells #[.int .i64 0, .int .i64 0] 23)) (fun b _ => s.size - (intOf b).toNat)
  case atStart => exact ⟨0, by omega, rfl, rfl⟩
  case round =>
    obtain ⟨k, hk, rfl, rfl⟩ := hrel
    by_cases hlt : k < p
    · have hls : k < s.size := by omega
      have hc := H.out k hls hlt
      go_wp2
      go_roundw
      case rel => exact ⟨k + 1, by omega, by go_num, by first | rfl | trivial⟩
      case measure => simp [intOf]; omega
    · obtain rfl : k = p := by omega
      go_wp2_with fail
      refine (HN.out _).mono ?_
      rintro e w1 ⟨rfl, hb1⟩
      have B1 : Below w.heap.size w w1 := ((Below.refl _ _).alloc (Nat.le_refl _) _).trans (hb1.mono (by simp))
      have Z1 : Lc w1 w.heap.size 0 0 := Lc.new hb1
      have s1 : w.heap.size < w1.heap.size := Z1.lt
      go_wp2_with fail
      refine (HD.out _).mono ?_
      rintro e w2 ⟨rfl, hb2⟩
      have Z2 : Lc w2 w.heap.size 0 0 := Z1.next hb2
      have R2 : Lc w2 w1.heap.size n 1 := Lc.new hb2
      have B2 : Below w.heap.size w w2 := (B1.alloc B1.size _).trans (hb2.mono (by simp; omega))
      have s2 : w1.heap.size < w2.heap.size := R2.lt
      have ne1 : ¬ w.heap.size = w1.heap.size := by omega
      have ne2 : ¬ w1.heap.size = w.heap.size := by omega
      obtain ⟨⟨p0, p1⟩, o0, o1⟩ := R2
      obtain ⟨⟨z0, z1⟩, f0, f1⟩ := Z2
      clear Z1
      go_wp2
      refine bodyPost_ret (v := .tuple #[.agg #[.int .i64 0, .int .i64 0], .int .i64 8]) (by simp [results, Tryd.results25, go_sem, z0, z1]) rfl ⟨rfl, ?_⟩
      exact (((B2.setCell B1.size _).setCell (Nat.le_refl _) _).setCell (Nat.le_refl _) _)

set_option maxRecDepth 100000 in
set_option maxHeartbeats 800000 in
theorem refparse_p1_C (s : ByteArray) (w : World) (hl : s.size < 140737488355328) (h0 : 0 < s.size) (hm : ((s[0].toNat : Int) == 45) = false) (p : Nat) (hne : ∀ i (hi : i < s.size), i < p → ((s[i].toNat : Int) != 47) = true) (hp : p < s.size) (hq : ((s[p].toNat : Int) != 47) = false) (n : Int) (_hn1 : 0 ≤ n) (_hn2 : n ≤ 9999999999) (hnum : ∀ W, Calls Tryd.prog 51 #[.string (s.extract 0 p)] W fun e w' => e = .returned (.tuple #[.int .i64 n, .bool true]) ∧ Below W.heap.size W w') (d : Int) (hden : ∀ W, Calls Tryd.prog 51 #[.string (s.extract (p + 1) s.size)] W fun e w' => e = .returned (.tuple #[.int .i64 d, .bool true]) ∧ Below W.heap.size W w') (h1 : ((d : Int) != 1) = false) :
    Calls Tryd.prog 25 #[.string s] w fun e w' => e = .returned (.tuple #[.agg #[.int .i64 0, .int .i64 0], .int .i64 8]) ∧ Below w.heap.size w w' := by
  have H := Lib.hid hne; clear hne
  have HN := Lib.hid hnum; clear hnum
  have HD := Lib.hid hden; clear hden
  go_enter Tryd.func25, Tryd.ntmps25
  go_wp2
  go_loopw [5] (fun a wr => ∃ k : Nat, k ≤ p ∧ a = .int .i64 k ∧ wr = w.alloc (.cells #[.int .i64 0, .int .i64 0] 23)) (fun b _ => s.size - (intOf b).toNat)
  case atStart => exact ⟨0, by omega, rfl, rfl⟩
  case round =>
    obtain ⟨k, hk, rfl, rfl⟩ := hrel
    by_cases hlt : k < p
    · have hls : k < s.size := by omega
      have hc := H.out k hls hlt
      go_wp2
      go_roundw
      case rel => exact ⟨k + 1, by omega, by go_num, by first | rfl | trivial⟩
      case measure => simp [intOf]; omega
    · obtain rfl : k = p := by omega
      go_wp2_with fail
      refine (HN.out _).mono ?_
      rintro e w1 ⟨rfl, hb1⟩
      have B1 : Below w.heap.size w w1 := ((Below.refl _ _).alloc (Nat.le_refl _) _).trans (hb1.mono (by simp))
      have Z1 : Lc w1 w.heap.size 0 0 := Lc.new hb1
      have s1 : w.heap.size < w1.heap.size := Z1.lt
      go_wp2_with fail
      refine (HD.out _).mono ?_
      rintro e w2 ⟨rfl, hb2⟩
      have Z2 : Lc w2 w.heap.size 0 0 := Z1.next hb2
      have R2 : Lc w2 w1.heap.size n 1 := Lc.new hb2
      have B2 : Below w.heap.size w w2 := (B1.alloc B1.size _).trans (hb2.mono (by simp; omega))
      have s2 : w1.heap.size < w2.heap.size := R2.lt
      have ne1 : ¬ w.heap.size = w1.heap.size := by omega
      have ne2 : ¬ w1.heap.size = w.heap.size := by omega
      obtain ⟨⟨p0, p1⟩, o0, o1⟩ := R2
      obtain ⟨⟨z0, z1⟩, f0, f1⟩ := Z2
      clear Z1
      go_wp2
      refine bodyPost_ret (v := .tuple #[.agg #[.int .i64 0, .int .i64 0], .int .i64 8]) (by simp [results, Tryd.results25, go_sem, z0, z1]) rfl ⟨rfl, ?_⟩
      exact (((B2.setCell B1.size _).setCell (Nat.le_refl _) _).setCell (Nat.le_refl _) _)

set_option maxRecDepth 100000 in
set_option maxHeartbeats 800000 in
theorem refparse_p1_E (s : ByteArray) (w : World) (hl : s.size < 140737488355328) (h0 : 0 < s.size) (hm : ((s[0].toNat : Int) == 45) = false) (p : Nat) (hne : ∀ i (hi : i < s.size), i < p → ((s[i].toNat : Int) != 47) = true) (hp : p < s.size) (hq : ((s[p].toNat : Int) != 47) = false) (n : Int) (_hn1 : 0 ≤ n) (_hn2 : n ≤ 9999999999) (hnum : ∀ W, Calls Tryd.prog 51 #[.string (s.extract 0 p)] W fun e w' => e = .returned (.tuple #[.int .i64 n, .bool true]) ∧ Below W.heap.size W w') (d : Int) (hden : ∀ W, Calls Tryd.prog 51 #[.string (s.extract (p + 1) s.size)] W fun e w' => e = .returned (.tuple #[.int .i64 d, .bool true]) ∧ Below W.heap.size W w') (h1 : ((d : Int) != 1) = true) (hval : ∀ W, Calls Tryd.prog 7 #[.agg #[.int .i64 n, .int .i64 d]] W fun e w' => e = .returned (.bool false) ∧ Below W.heap.size W w') :
    Calls Tryd.prog 25 #[.string s] w fun e w' => e = .returned (.tuple #[.agg #[.int .i64 0, .int .i64 0], .int .i64 8]) ∧ Below w.heap.size w w' := by
  have H := Lib.hid hne; clear hne
  have HN := Lib.hid hnum; clear hnum
  have HD := Lib.hid hden; clear hden
  have HV := Lib.hid hval; clear hval
  go_enter Tryd.func25, Tryd.ntmps25
  go_wp2
  go_loopw [5] (fun a wr => ∃ k : Nat, k ≤ p ∧ a = .int .i64 k ∧ wr = w.alloc (.cells #[.int .i64 0, .int .i64 0] 23)) (fun b _ => s.size - (intOf b).toNat)
  case atStart => exact ⟨0, by omega, rfl, rfl⟩
  case round =>
    obtain ⟨k, hk, rfl, rfl⟩ := hrel
    by_cases hlt : k < p
    · have hls : k < s.size := by omega
      have hc := H.out k hls hlt
      go_wp2
      go_roundw
      case rel => exact ⟨k + 1, by omega, by go_num, by first | rfl | trivial⟩
      case measure => simp [intOf]; omega
    · obtain rfl : k = p := by omega
      go_wp2_with fail
      refine (HN.out _).mono ?_
      rintro e w1 ⟨rfl, hb1⟩
      have B1 : Below w.heap.size w w1 := ((Below.refl _ _).alloc (Nat.le_refl _) _).trans (hb1.mono (by simp))
      have Z1 : Lc w1 w.heap.size 0 0 := Lc.new hb1
      have s1 : w.heap.size < w1.heap.size := Z1.lt
      go_wp2_with fail
      refine (HD.out _).mono ?_
      rintro e w2 ⟨rfl, hb2⟩
      have Z2 : Lc w2 w.heap.size 0 0 := Z1.next hb2
      have R2 : Lc w2 w1.heap.size n 1 := Lc.new hb2
      have B2 : Below w.heap.size w w2 := (B1.alloc B1.size _).trans (hb2.mono (by simp; omega))
      have s2 : w1.heap.size < w2.heap.size := R2.lt
      have ne1 : ¬ w.heap.size = w1.heap.size := by omega
      have ne2 : ¬ w1.heap.size = w.heap.size := by omega
      have R2k := Lib.hid R2
      have Z2k := Lib.hid Z2
      obtain ⟨⟨p0, p1⟩, o0, o1⟩ := R2
      clear Z1 Z2
      go_wp2_with fail
      refine (HV.out _).mono ?_
      rintro e w3 ⟨rfl, hb3⟩
      clear p0 p1 o0 o1
      have R3 : Lc w3 w1.heap.size n d := (R2k.out.put1).on hb3
      have Z3 : Lc w3 w.heap.size 0 0 := (Z2k.out.far (by omega)).on hb3
      have B3 : Below w.heap.size w w3 := (B2.setCell B1.size _).trans (hb3.mono (by simp; omega))
      obtain ⟨⟨z0, z1⟩, f0, f1⟩ := Z3
      obtain ⟨⟨p0, p1⟩, o0, o1⟩ := R3
      clear s1 s2 R2k Z2k
      go_wp2
      refine bodyPost_ret (v := .tuple #[.agg #[.int .i64 0, .int .i64 0], .int .i64 8]) (by simp [results, Tryd.results25, go_sem, z0, z1]) rfl ⟨rfl, ?_⟩
      exact (B3.setCell (Nat.le_refl _) _).setCell (Nat.le_refl _) _

set_option maxRecDepth 100000 in
set_option maxHeartbeats 800000 in
theorem refparse_p1_F (s : ByteArray) (w : World) (hl : s.size < 140737488355328) (h0 : 0 < s.size) (hm : ((s[0].toNat : Int) == 45) = false) (p : Nat) (hne : ∀ i (hi : i < s.size), i < p → ((s[i].toNat : Int) != 47) = true) (hp : p < s.size) (hq : ((s[p].toNat : Int) != 47) = false) (n : Int) (_hn1 : 0 ≤ n) (_hn2 : n ≤ 9999999999) (hnum : ∀ W, Calls Tryd.prog 51 #[.string (s.extract 0 p)] W fun e w' => e = .returned (.tuple #[.int .i64 n, .bool true]) ∧ Below W.heap.size W w') (d : Int) (hden : ∀ W, Calls Tryd.prog 51 #[.string (s.extract (p + 1) s.size)] W fun e w' => e = .returned (.tuple #[.int .i64 d, .bool true]) ∧ Below W.heap.size W w') (h1 : ((d : Int) != 1) = true) (hval : ∀ W, Calls Tryd.prog 7 #[.agg #[.int .i64 n, .int .i64 d]] W fun e w' => e = .returned (.bool true) ∧ Below W.heap.size W w') :
    Calls Tryd.prog 25 #[.string s] w fun e w' => e = .returned (.tuple #[.agg #[.int .i64 n, .int .i64 d], .int .i64 0]) ∧ Below w.heap.size w w' := by
  have H := Lib.hid hne; clear hne
  have HN := Lib.hid hnum; clear hnum
  have HD := Lib.hid hden; clear hden
  have HV := Lib.hid hval; clear hval
  go_enter Tryd.func25, Tryd.ntmps25
  go_wp2
  go_loopw [5] (fun a wr => ∃ k : Nat, k ≤ p ∧ a = .int .i64 k ∧ wr = w.alloc (.cells #[.int .i64 0, .int .i64 0] 23)) (fun b _ => s.size - (intOf b).toNat)
  case atStart => exact ⟨0, by omega, rfl, rfl⟩
  case round =>
    obtain ⟨k, hk, rfl, rfl⟩ := hrel
    by_cases hlt : k < p
    · have hls : k < s.size := by omega
      have hc := H.out k hls hlt
      go_wp2
      go_roundw
      case rel => exact ⟨k + 1, by omega, by go_num, by first | rfl | trivial⟩
      case measure => simp [intOf]; omega
    · obtain rfl : k = p := by omega
      go_wp2_with fail
      refine (HN.out _).mono ?_
      rintro e w1 ⟨rfl, hb1⟩
      have B1 : Below w.heap.size w w1 := ((Below.refl _ _).alloc (Nat.le_refl _) _).trans (hb1.mono (by simp))
      have Z1 : Lc w1 w.heap.size 0 0 := Lc.new hb1
      have s1 : w.heap.size < w1.heap.size := Z1.lt
      go_wp2_with fail
      refine (HD.out _).mono ?_
      rintro e w2 ⟨rfl, hb2⟩
      have Z2 : Lc w2 w.heap.size 0 0 := Z1.next hb2
      have R2 : Lc w2 w1.heap.size n 1 := Lc.new hb2
      have B2 : Below w.heap.size w w2 := (B1.alloc B1.size _).trans (hb2.mono (by simp; omega))
      have s2 : w1.heap.size < w2.heap.size := R2.lt
      have ne1 : ¬ w.heap.size = w1.heap.size := by omega
      have ne2 : ¬ w1.heap.size = w.heap.size := by omega
      have R2k := Lib.hid R2
      have Z2k := Lib.hid Z2
      obtain ⟨⟨p0, p1⟩, o0, o1⟩ := R2
      clear Z1 Z2
      go_wp2_with fail
      refine (HV.out _).mono ?_
      rintro e w3 ⟨rfl, hb3⟩
      clear p0 p1 o0 o1
      have R3 : Lc w3 w1.heap.size n d := (R2k.out.put1).on hb3
      have Z3 : Lc w3 w.heap.size 0 0 := (Z2k.out.far (by omega)).on hb3
      have B3 : Below w.heap.size w w3 := (B2.setCell B1.size _).trans (hb3.mono (by simp; omega))
      obtain ⟨⟨z0, z1⟩, f0, f1⟩ := Z3
      obtain ⟨⟨p0, p1⟩, o0, o1⟩ := R3
      clear s1 s2 R2k Z2k
      go_wp2
      refine bodyPost_ret (v := .tuple #[.agg #[.int .i64 n, .int .i64 d], .int .i64 0]) (by simp [results, Tryd.results25, go_sem, z0, z1]) rfl ⟨rfl, ?_⟩
      exact (B3.setCell (Nat.le_refl _) _).setCell (Nat.le_refl _) _

set_option maxRecDepth 100000 in
set_option maxHeartbeats 800000 in
theorem refparse_m1_A (s : ByteArray) (w : World) (hl : s.size < 140737488355328) (h0 : 0 < s.size) (hm : ((s[0].toNat : Int) == 45) = true) (t : ByteArray) (ht : s.extract 1 s.size = t) (hl2 : t.size < 140737488355328) (p : Nat) (hne : ∀ i (hi : i < t.size), i < p → ((t[i].toNat : Int) != 47) = true) (hp : p < t.size) (hq : ((t[p].toNat : Int) != 47) = false) (n : Int) (hn1 : 0 ≤ n) (hn2 : n ≤ 9999999999) (hnum : ∀ W, Calls Tryd.prog 51 #[.string (t.extract 0 p)] W fun e w' => e = .returned (.tuple #[.int .i64 n, .bool false]) ∧ Below W.heap.size W w') (fine : Bool) (d : Int) (hden : ∀ W, Calls Tryd.prog 51 #[.string (t.extract (p + 1) t.size)] W fun e w' => e = .returned (.tuple #[.int .i64 d, .bool fine]) ∧ Below W.heap.size W w') :
    Calls Tryd.prog 25 #[.string s] w fun e w' => e = .returned (.tuple #[.agg #[.int .i64 0, .int .i64 0], .int .i64 8]) ∧ Below w.heap.size w w' := by
  have H := Lib.hid hne; clear hne
  have HN := Lib.hid hnum; clear hnum
  have HD := Lib.hid hden; clear hden
  go_enter Tryd.func25, Tryd.ntmps25
  go_wp2
  go_loopw [5] (fun a wr => ∃ k : Nat, k ≤ p ∧ a = .int .i64 k ∧ wr = w.alloc (.cells #[.int .i64 0, .int .i64 0] 23)) (fun b _ => t.size - (intOf b).toNat)
  case atStart => exact ⟨0, by omega, rfl, rfl⟩
  case round =>
    obtain ⟨k, hk, rfl, rfl⟩ := hrel
    by_cases hlt : k < p
    · have hls : k < t.size := by omega
      have hc := H.out k hls hlt
      go_wp2
      go_roundw
      case rel => exact ⟨k + 1, by omega, by go_num, by first | rfl | trivial⟩
      case measure => simp [intOf]; omega
    · obtain rfl : k = p := by omega
      go_wp2_with fail
      refine (HN.out _).mono ?_
      rintro e w1 ⟨rfl, hb1⟩
      have B1 : Below w.heap.size w w1 := ((Below.refl _ _).alloc (Nat.le_refl _) _).trans (hb1.mono (by simp))
      have Z1 : Lc w1 w.heap.size 0 0 := Lc.new hb1
      have s1 : w.heap.size < w1.heap.size := Z1.lt
      go_wp2_with fail
      refine (HD.out _).mono ?_
      rintro e w2 ⟨rfl, hb2⟩
      have Z2 : Lc w2 w.heap.size 0 0 := Z1.next hb2
      have R2 : Lc w2 w1.heap.size n 1 := Lc.new hb2
      have B2 : Below w.heap.size w w2 := (B1.alloc B1.size _).trans (hb2.mono (by simp; omega))
      have s2 : w1.heap.size < w2.heap.size := R2.lt
      have ne1 : ¬ w.heap.size = w1.heap.size := by omega
      have ne2 : ¬ w1.heap.size = w.heap.size := by omega
      obtain ⟨⟨p0, p1⟩, o0, o1⟩ := R2
      obtain ⟨⟨z0, z1⟩, f0, f1⟩ := Z2
      clear Z1
      go_wp2
      refine bodyPost_ret (v := .tuple #[.agg #[.int .i64 0, .int .i64 0], .int .i64 8]) (by simp [results, Tryd.results25, go_sem, z0, z1]) rfl ⟨rfl, ?_⟩
      exact ((((B2.setCell B1.size _).setCell B1.size _).setCell (Nat.le_refl _) _).setCell (Nat.le_refl _) _)

set_option maxRecDepth 100000 in
set_option maxHeartbeats 800000 in
theorem refparse_m1_B (s : ByteArray) (w : World) (hl : s.size < 140737488355328) (h0 : 0 < s.size) (hm : ((s[0].toNat : Int) == 45) = true) (t : ByteArray) (ht : s.extract 1 s.size = t) (hl2 : t.size < 140737488355328) (p : Nat) (hne : ∀ i (hi : i < t.size), i < p → ((t[i].toNat : Int) != 47) = true) (hp : p < t.size) (hq : ((t[p].toNat : Int) != 47) = false) (n : Int) (hn1 : 0 ≤ n) (hn2 : n ≤ 9999999999) (hnum : ∀ W, Calls Tryd.prog 51 #[.string (t.extract 0 p)] W fun e w' => e = .returned (.tuple #[.int .i64 n, .bool true]) ∧ Below W.heap.size W w') (d : Int) (hden : ∀ W, Calls Tryd.prog 51 #[.string (t.extract (p + 1) t.size)] W fun e w' => e = .returned (.tuple #[.int .i64 d, .bool false]) ∧ Below W.heap.size W w') :
    Calls Tryd.prog 25 #[.string s] w fun e w' => e = .returned (.tuple #[.agg #[.int .i64 0, .int .i64 0], .int .i64 8]) ∧ Below w.heap.size w w' := by
  have H := Lib.hid hne; clear hne
  have HN := Lib.hid hnum; clear hnum
  have HD := Lib.hid hden; clear hden
  go_enter Tryd.func25, Tryd.ntmps25
  go_wp2
  go_loopw [5] (fun a wr => ∃ k : Nat, k ≤ p ∧ a = .int .i64 k ∧ wr = w.alloc (.cells #[.int .i64 0, .int .i64 0] 23)) (fun b _ => t.size - (intOf b).toNat)
  case atStart => exact ⟨0, by omega, rfl, rfl⟩
  case round =>
    obtain ⟨k, hk, rfl, rfl⟩ := hrel
    by_cases hlt : k < p
    · have hls : k < t.size := by omega
      have hc := H.out k hls hlt
      go_wp2
      go_roundw
      case rel => exact ⟨k + 1, by omega, by go_num, by first | rfl | trivial⟩
      case measure => simp [intOf]; omega
    · obtain rfl : k = p := by omega
      go_wp2_with fail
      refine (HN.out _).mono ?_
      rintro e w1 ⟨rfl, hb1⟩
      have B1 : Below w.heap.size w w1 := ((Below.refl _ _).alloc (Nat.le_refl _) _).trans (hb1.mono (by simp))
      have Z1 : Lc w1 w.heap.size 0 0 := Lc.new hb1
      have s1 : w.heap.size < w1.heap.size := Z1.lt
      go_wp2_with fail
      refine (HD.out _).mono ?_
      rintro e w2 ⟨rfl, hb2⟩
      have Z2 : Lc w2 w.heap.size 0 0 := Z1.next hb2
      have R2 : Lc w2 w1.heap.size n 1 := Lc.new hb2
      have B2 : Below w.heap.size w w2 := (B1.alloc B1.size _).trans (hb2.mono (by simp; omega))
      have s2 : w1.heap.size < w2.heap.size := R2.lt
      have ne1 : ¬ w.heap.size = w1.heap.size := by omega
      have ne2 : ¬ w1.heap.size = w.heap.size := by omega
      obtain ⟨⟨p0, p1⟩, o0, o1⟩ := R2
      obtain ⟨⟨z0, z1⟩, f0, f1⟩ := Z2
      clear Z1
      go_wp2
      refine bodyPost_ret (v := .tuple #[.agg #[.int .i64 0, .int .i64 0], .int .i64 8]) (by simp [results, Tryd.results25, go_sem, z0, z1]) rfl ⟨rfl, ?_⟩
      exact ((((B2.setCell B1.size _).setCell B1.size _).setCell (Nat.le_refl _) _).setCell (Nat.le_refl _) _)

set_option maxRecDepth 100000 in
set_option maxHeartbeats 800000 in
theorem refparse_m1_C (s : ByteArray) (w : World) (hl : s.size < 140737488355328) (h0 : 0 < s.size) (hm : ((s[0].toNat : Int) == 45) = true) (t : ByteArray) (ht : s.extract 1 s.size = t) (hl2 : t.size < 140737488355328) (p : Nat) (hne : ∀ i (hi : i < t.size), i < p → ((t[i].toNat : Int) != 47) = true) (hp : p < t.size) (hq : ((t[p].toNat : Int) != 47) = false) (n : Int) (hn1 : 0 ≤ n) (hn2 : n ≤ 9999999999) (hnum : ∀ W, Calls Tryd.prog 51 #[.string (t.extract 0 p)] W fun e w' => e = .returned (.tuple #[.int .i64 n, .bool true]) ∧ Below W.heap.size W w') (d : Int) (hden : ∀ W, Calls Tryd.prog 51 #[.string (t.extract (p + 1) t.size)] W fun e w' => e = .returned (.tuple #[.int .i64 d, .bool true]) ∧ Below W.heap.size W w') (h1 : ((d : Int) != 1) = false) :
    Calls Tryd.prog 25 #[.string s] w fun e w' => e = .returned (.tuple #[.agg #[.int .i64 0, .int .i64 0], .int .i64 8]) ∧ Below w.heap.size w w' := by
  have H := Lib.hid hne; clear hne
  have HN := Lib.hid hnum; clear hnum
  have HD := Lib.hid hden; clear hden
  go_enter Tryd.func25, Tryd.ntmps25
  go_wp2
  go_loopw [5] (fun a wr => ∃ k : Nat, k ≤ p ∧ a = .int .i64 k ∧ wr = w.alloc (.cells #[.int .i64 0, .int .i64 0] 23)) (fun b _ => t.size - (intOf b).toNat)
  case atStart => exact ⟨0, by omega, rfl, rfl⟩
  case round =>
    obtain ⟨k, hk, rfl, rfl⟩ := hrel
    by_cases hlt : k < p
    · have hls : k < t.size := by omega
      have hc := H.out k hls hlt
      go_wp2
      go_roundw
      case rel => exact ⟨k + 1, by omega, by go_num, by first | rfl | trivial⟩
      case measure => simp [intOf]; omega
    · obtain rfl : k = p := by omega
      go_wp2_with fail
      refine (HN.out _).mono ?_
      rintro e w1 ⟨rfl, hb1⟩
      have B1 : Below w.heap.size w w1 := ((Below.refl _ _).alloc (Nat.le_refl _) _).trans (hb1.mono (by simp))
      have Z1 : Lc w1 w.heap.size 0 0 := Lc.new hb1
      have s1 : w.heap.size < w1.heap.size := Z1.lt
      go_wp2_with fail
      refine (HD.out _).mono ?_
      rintro e w2 ⟨rfl, hb2⟩
      have Z2 : Lc w2 w.heap.size 0 0 := Z1.next hb2
      have R2 : Lc w2 w1.heap.size n 1 := Lc.new hb2
      have B2 : Below w.heap.size w w2 := (B1.alloc B1.size _).trans (hb2.mono (by simp; omega))
      have s2 : w1.heap.size < w2.heap.size := R2.lt
      have ne1 : ¬ w.heap.size = w1.heap.size := by omega
      have ne2 : ¬ w1.heap.size = w.heap.size := by omega
      obtain ⟨⟨p0, p1⟩, o0, o1⟩ := R2
      obtain ⟨⟨z0, z1⟩, f0, f1⟩ := Z2
      clear Z1
      go_wp2
      refine bodyPost_ret (v := .tuple #[.agg #[.int .i64 0, .int .i64 0], .int .i64 8]) (by simp [results, Tryd.results25, go_sem, z0, z1]) rfl ⟨rfl, ?_⟩
      exact ((((B2.setCell B1.size _).setCell B1.size _).setCell (Nat.le_refl _) _).setCell (Nat.le_refl _) _)

set_option maxRecDepth 100000 in
set_option maxHeartbeats 800000 in
theorem refparse_m1_D (s : ByteArray) (w : World) (hl : s.size < 140737488355328) (h0 : 0 < s.size) (hm : ((s[0].toNat : Int) == 45) = true) (t : ByteArray) (ht : s.extract 1 s.size = t) (hl2 : t.size < 140737488355328) (p : Nat) (hne : ∀ i (hi : i < t.size), i < p → ((t[i].toNat : Int) != 47) = true) (hp : p < t.size) (hq : ((t[p].toNat : Int) != 47) = false) (n : Int) (hn1 : 0 ≤ n) (hn2 : n ≤ 9999999999) (hnum : ∀ W, Calls Tryd.prog 51 #[.string (t.extract 0 p)] W fun e w' => e = .returned (.tuple #[.int .i64 n, .bool true]) ∧ Below W.heap.size W w') (d : Int) (hden : ∀ W, Calls Tryd.prog 51 #[.string (t.extract (p + 1) t.size)] W fun e w' => e = .returned (.tuple #[.int .i64 d, .bool true]) ∧ Below W.heap.size W w') (h1 : ((d : Int) != 1) = true) (h2 : ((n : Int) != 0) = false) :
    Calls Tryd.prog 25 #[.string s] w fun e w' => e = .returned (.tuple #[.agg #[.int .i64 0, .int .i64 0], .int .i64 8]) ∧ Below w.heap.size w w' := by
  have H := Lib.hid hne; clear hne
  have HN := Lib.hid hnum; clear hnum
  have HD := Lib.hid hden; clear hden
  go_enter Tryd.func25, Tryd.ntmps25
  go_wp2
  go_loopw [5] (fun a wr => ∃ k : Nat, k ≤ p ∧ a = .int .i64 k ∧ wr = w.alloc (.cells #[.int .i64 0, .int .i64 0] 23)) (fun b _ => t.size - (intOf b).toNat)
  case atStart => exact ⟨0, by omega, rfl, rfl⟩
  case round =>
    obtain ⟨k, hk, rfl, rfl⟩ := hrel
    by_cases hlt : k < p
    · have hls : k < t.size := by omega
      have hc := H.out k hls hlt
      go_wp2
      go_roundw
      case rel => exact ⟨k + 1, by omega, by go_num, by first | rfl | trivial⟩
      case measure => simp [intOf]; omega
    · obtain rfl : k = p := by omega
      go_wp2_with fail
      refine (HN.out _).mono ?_
      rintro e w1 ⟨rfl, hb1⟩
      have B1 : Below w.heap.size w w1 := ((Below.refl _ _).alloc (Nat.le_refl _) _).trans (hb1.mono (by simp))
      have Z1 : Lc w1 w.heap.size 0 0 := Lc.new hb1
      have s1 : w.heap.size < w1.heap.size := Z1.lt
      go_wp2_with fail
      refine (HD.out _).mono ?_
      rintro e w2 ⟨rfl, hb2⟩
      have Z2 : Lc w2 w.heap.size 0 0 := Z1.next hb2
      have R2 : Lc w2 w1.heap.size n 1 := Lc.new hb2
      have B2 : Below w.heap.size w w2 := (B1.alloc B1.size _).trans (hb2.mono (by simp; omega))
      have s2 : w1.heap.size < w2.heap.size := R2.lt
      have ne1 : ¬ w.heap.size = w1.heap.size := by omega
      have ne2 : ¬ w1.heap.size = w.heap.size := by omega
      obtain ⟨⟨p0, p1⟩, o0, o1⟩ := R2
      obtain ⟨⟨z0, z1⟩, f0, f1⟩ := Z2
      clear Z1
      go_wp2
      refine bodyPost_ret (v := .tuple #[.agg #[.int .i64 0, .int .i64 0], .int .i64 8]) (by simp [results, Tryd.results25, go_sem, z0, z1]) rfl ⟨rfl, ?_⟩
      exact ((((B2.setCell B1.size _).setCell B1.size _).setCell (Nat.le_refl _) _).setCell (Nat.le_refl _) _)

set_option maxRecDepth 100000 in
set_option maxHeartbeats 800000 in
theorem refparse_m1_E (s : ByteArray) (w : World) (hl : s.size < 140737488355328) (h0 : 0 < s.size) (hm : ((s[0].toNat : Int) == 45) = true) (t : ByteArray) (ht : s.extract 1 s.size = t) (hl2 : t.size < 140737488355328) (p : Nat) (hne : ∀ i (hi : i < t.size), i < p → ((t[i].toNat : Int) != 47) = true) (hp : p < t.size) (hq : ((t[p].toNat : Int) != 47) = false) (n : Int) (hn1 : 0 ≤ n) (hn2 : n ≤ 9999999999) (hnum : ∀ W, Calls Tryd.prog 51 #[.string (t.extract 0 p)] W fun e w' => e = .returned (.tuple #[.int .i64 n, .bool true]) ∧ Below W.heap.size W w') (d : Int) (hden : ∀ W, Calls Tryd.prog 51 #[.string (t.extract (p + 1) t.size)] W fun e w' => e = .returned (.tuple #[.int .i64 d, .bool true]) ∧ Below W.heap.size W w') (h1 : ((d : Int) != 1) = true) (h2 : ((n : Int) != 0) = true) (hval : ∀ W, Calls Tryd.prog 7 #[.agg #[.int .i64 (-n), .int .i64 d]] W fun e w' => e = .returned (.bool false) ∧ Below W.heap.size W w') :
    Calls Tryd.prog 25 #[.string s] w fun e w' => e = .returned (.tuple #[.agg #[.int .i64 0, .int .i64 0], .int .i64 8]) ∧ Below w.heap.size w w' := by
  have H := Lib.hid hne; clear hne
  have HN := Lib.hid hnum; clear hnum
  have HD := Lib.hid hden; clear hden
  have HV := Lib.hid hval; clear hval
  go_enter Tryd.func25, Tryd.ntmps25
  go_wp2
  go_loopw [5] (fun a wr => ∃ k : Nat, k ≤ p ∧ a = .int .i64 k ∧ wr = w.alloc (.cells #[.int .i64 0, .int .i64 0] 23)) (fun b _ => t.size - (intOf b).toNat)
  case atStart => exact ⟨0, by omega, rfl, rfl⟩
  case round =>
    obtain ⟨k, hk, rfl, rfl⟩ := hrel
    by_cases hlt : k < p
    · have hls : k < t.size := by omega
      have hc := H.out k hls hlt
      go_wp2
      go_roundw
      case rel => exact ⟨k + 1, by omega, by go_num, by first | rfl | trivial⟩
      case measure => simp [intOf]; omega
    · obtain rfl : k = p := by omega
      go_wp2_with fail
      refine (HN.out _).mono ?_
      rintro e w1 ⟨rfl, hb1⟩
      have B1 : Below w.heap.size w w1 := ((Below.refl _ _).alloc (Nat.le_refl _) _).trans (hb1.mono (by simp))
      have Z1 : Lc w1 w.heap.size 0 0 := Lc.new hb1
      have s1 : w.heap.size < w1.heap.size := Z1.lt
      go_wp2_with fail
      refine (HD.out _).mono ?_
      rintro e w2 ⟨rfl, hb2⟩
      have Z2 : Lc w2 w.heap.size 0 0 := Z1.next hb2
      have R2 : Lc w2 w1.heap.size n 1 := Lc.new hb2
      have B2 : Below w.heap.size w w2 := (B1.alloc B1.size _).trans (hb2.mono (by simp; omega))
      have s2 : w1.heap.size < w2.heap.size := R2.lt
      have ne1 : ¬ w.heap.size = w1.heap.size := by omega
      have ne2 : ¬ w1.heap.size = w.heap.size := by omega
      have R2k := Lib.hid R2
      have Z2k := Lib.hid Z2
      obtain ⟨⟨p0, p1⟩, o0, o1⟩ := R2
      clear Z1 Z2
      go_wp2_with fail
      refine (HV.out _).mono ?_
      rintro e w3 ⟨rfl, hb3⟩
      clear p0 p1 o0 o1
      have R3 : Lc w3 w1.heap.size (-n) d := ((R2k.out.put1).put0).on hb3
      have Z3 : Lc w3 w.heap.size 0 0 := ((Z2k.out.far (by omega)).far (by omega)).on hb3
      have B3 : Below w.heap.size w w3 := ((B2.setCell B1.size _).setCell B1.size _).trans (hb3.mono (by simp; omega))
      obtain ⟨⟨z0, z1⟩, f0, f1⟩ := Z3
      obtain ⟨⟨p0, p1⟩, o0, o1⟩ := R3
      clear s1 s2 R2k Z2k
      go_wp2
      refine bodyPost_ret (v := .tuple #[.agg #[.int .i64 0, .int .i64 0], .int .i64 8]) (by simp [results, Tryd.results25, go_sem, z0, z1]) rfl ⟨rfl, ?_⟩
      exact (B3.setCell (Nat.le_refl _) _).setCell (Nat.le_refl _) _

set_option maxRecDepth 100000 in
set_option maxHeartbeats 800000 in
theorem refparse_m1_F (s : ByteArray) (w : World) (hl : s.size < 140737488355328) (h0 : 0 < s.size) (hm : ((s[0].toNat : Int) == 45) = true) (t : ByteArray) (ht : s.extract 1 s.size = t) (hl2 : t.size < 140737488355328) (p : Nat) (hne : ∀ i (hi : i < t.size), i < p → ((t[i].toNat : Int) != 47) = true) (hp : p < t.size) (hq : ((t[p].toNat : Int) != 47) = false) (n : Int) (hn1 : 0 ≤ n) (hn2 : n ≤ 9999999999) (hnum : ∀ W, Calls Tryd.prog 51 #[.string (t.extract 0 p)] W fun e w' => e = .returned (.tuple #[.int .i64 n, .bool true]) ∧ Below W.heap.size W w') (d : Int) (hden : ∀ W, Calls Tryd.prog 51 #[.string (t.extract (p + 1) t.size)] W fun e w' => e = .returned (.tuple #[.int .i64 d, .bool true]) ∧ Below W.heap.size W w') (h1 : ((d : Int) != 1) = true) (h2 : ((n : Int) != 0) = true) (hval : ∀ W, Calls Tryd.prog 7 #[.agg #[.int .i64 (-n), .int .i64 d]] W fun e w' => e = .returned (.bool true) ∧ Below W.heap.size W w') :
    Calls Tryd.prog 25 #[.string s] w fun e w' => e = .returned (.tuple #[.agg #[.int .i64 (-n), .int .i64 d], .int .i64 0]) ∧ Below w.heap.size w w' := by
  have H := Lib.hid hne; clear hne
  have HN := Lib.hid hnum; clear hnum
  have HD := Lib.hid hden; clear hden
  have HV := Lib.hid hval; clear hval
  go_enter Tryd.func25, Tryd.ntmps25
  go_wp2
  go_loopw [5] (fun a wr => ∃ k : Nat, k ≤ p ∧ a = .int .i64 k ∧ wr = w.alloc (.cells #[.int .i64 0, .int .i64 0] 23)) (fun b _ => t.size - (intOf b).toNat)
  case atStart => exact ⟨0, by omega, rfl, rfl⟩
  case round =>
    obtain ⟨k, hk, rfl, rfl⟩ := hrel
    by_cases hlt : k < p
    · have hls : k < t.size := by omega
      have hc := H.out k hls hlt
      go_wp2
      go_roundw
      case rel => exact ⟨k + 1, by omega, by go_num, by first | rfl | trivial⟩
      case measure => simp [intOf]; omega
    · obtain rfl : k = p := by omega
      go_wp2_with fail
      refine (HN.out _).mono ?_
      rintro e w1 ⟨rfl, hb1⟩
      have B1 : Below w.heap.size w w1 := ((Below.refl _ _).alloc (Nat.le_refl _) _).trans (hb1.mono (by simp))
      have Z1 : Lc w1 w.heap.size 0 0 := Lc.new hb1
      have s1 : w.heap.size < w1.heap.size := Z1.lt
      go_wp2_with fail
      refine (HD.out _).mono ?_
      rintro e w2 ⟨rfl, hb2⟩
      have Z2 : Lc w2 w.heap.size 0 0 := Z1.next hb2
      have R2 : Lc w2 w1.heap.size n 1 := Lc.new hb2
      have B2 : Below w.heap.size w w2 := (B1.alloc B1.size _).trans (hb2.mono (by simp; omega))
      have s2 : w1.heap.size < w2.heap.size := R2.lt
      have ne1 : ¬ w.heap.size = w1.heap.size := by omega
      have ne2 : ¬ w1.heap.size = w.heap.size := by omega
      have R2k := Lib.hid R2
      have Z2k := Lib.hid Z2
      obtain ⟨⟨p0, p1⟩, o0, o1⟩ := R2
      clear Z1 Z2
      go_wp2_with fail
      refine (HV.out _).mono ?_
      rintro e w3 ⟨rfl, hb3⟩
      clear p0 p1 o0 o1
      have R3 : Lc w3 w1.heap.size (-n) d := ((R2k.out.put1).put0).on hb3
      have Z3 : Lc w3 w.heap.size 0 0 := ((Z2k.out.far (by omega)).far (by omega)).on hb3
      have B3 : Below w.heap.size w w3 := ((B2.setCell B1.size _).setCell B1.size _).trans (hb3.mono (by simp; omega))
      obtain ⟨⟨z0, z1⟩, f0, f1⟩ := Z3
      obtain ⟨⟨p0, p1⟩, o0, o1⟩ := R3
      clear s1 s2 R2k Z2k
      go_wp2
      refine bodyPost_ret (v := .tuple #[.agg #[.int .i64 (-n), .int .i64 d], .int .i64 0]) (by simp [results, Tryd.results25, go_sem, z0, z1]) rfl ⟨rfl, ?_⟩
      exact (B3.setCell (Nat.le_refl _) _).setCell (Nat.le_refl _) _
end Go.Proofs.YtpmlfchbihoflaaDoor
