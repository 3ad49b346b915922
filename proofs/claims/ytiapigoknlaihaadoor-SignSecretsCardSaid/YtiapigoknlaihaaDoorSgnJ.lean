/-
  What the variables hold; strconv.Itoa; strings as bytes; package digest: extend, Ints (out of the texts of layer 5).
-/
import Derived.Test.YtiapigoknlaihaaDoorDigA
import Derived.Test.YtiapigoknlaihaaDoorGenD
import Derived.Test.YtiapigoknlaihaaDoorShelf
import Derived.Lib.ItoaMem
import Derived.Lib.ItoaLen
import Derived.Lib.ConvBytes
namespace Go.Proofs.YtiapigoknlaihaaDoor
open Go.RowKit Go.Sort
open Go.RowKit (Below)
set_option linter.unusedVariables false
set_option linter.unusedSimpArgs false

theorem fnv_take {xs : List Int} {j : Nat} (h0 : Int) (h : j < xs.length) : fnv h0 (xs.take (j + 1)) = stp (fnv h0 (xs.take j)) (gd xs j) := by rw [take_k h, fnv_snoc]
set_option maxHeartbeats 400000 in
theorem extend_any (h : Int) (A : Option Addr) (C : Nat) (xs : List Int) (w : World) (hl : xs.length ≤ 9223372036854775807) (hs : Sk .u8 w A xs) :
    Calls Tryd.prog 39 #[.int .u64 h, .slice A xs.length C] w fun e w' => e = .returned (.int .u64 (fnv h xs)) ∧ w = w' := by
  have HS := Lib.hid hs
  have HT := Lib.hid (fun j (hj : j < xs.length) => fnv_take h hj)
  clear hs
  go_enter Tryd.func39, Tryd.ntmps39
  go_wp2
  go_loop [0, 9] (fun t i => ∃ k : Nat, k ≤ xs.length ∧ i = .int .i64 k ∧ t = .int .u64 (fnv h (xs.take k))) (fun _ i => xs.length - (intOf i).toNat)
  case atStart => exact ⟨0, Nat.zero_le _, rfl, rfl⟩
  case round =>
    obtain ⟨k, hk, rfl, rfl⟩ := hrel
    by_cases hlt : k < xs.length
    · obtain ⟨b, o, rfl, hc⟩ := HS.out k hlt
      have HE := Lib.hid (HT.out k hlt)
      generalize fnv h (xs.take k) = g at *
      generalize gd xs k = c at *
      go_wp2
      go_round
      case rel => exact ⟨k + 1, by omega, by go_num, by rw [HE.out]; exact ret_val (by unfold stp; rfl)⟩
      case measure => simp [intOf]; omega
    · have HE := Lib.hid (show fnv h (xs.take k) = fnv h xs by rw [List.take_of_length_le (by omega)])
      go_wp2
      go_ret
      exact ⟨ret_int HE.out, rfl⟩
theorem undrew_b {B : Nat} {w w' : World} (h : Below B w.drew w') : Below B w w' := (show Below B w w.drew from ⟨rfl, rfl, rfl, Nat.le_refl _, fun _ _ => rfl⟩).trans h
theorem cell_on {B : Nat} {w w' : World} {b k : Nat} {v : Value} (h : Below B w w') (hb : b < B) (hc : w.cell? ⟨b, k, none⟩ = some v) : w'.cell? ⟨b, k, none⟩ = some v := by rw [h.cell (p := ⟨b, k, none⟩) hb]; exact hc
/-- What the variables hold. -/
structure St (w : World) : Prop where
  tab : Lib.TabIs Tryd.prog w "internal/strconv.uint64pow10" .u64 Lib.pow10Tab
  sz : 3 ≤ w.heap.size
theorem tabNamed : Tryd.prog.globalNamed "internal/strconv.uint64pow10" = some 0 := by kernel_rfl
theorem tab_on {w w' : World} {B : Nat} (h : Lib.TabIs Tryd.prog w "internal/strconv.uint64pow10" .u64 Lib.pow10Tab) (hb : Below B w w') (hB : 0 < B) : Lib.TabIs Tryd.prog w' "internal/strconv.uint64pow10" .u64 Lib.pow10Tab := by
  unfold Lib.TabIs World.var? at h ⊢
  rw [tabNamed] at h ⊢
  simp only [Option.bind_some] at h ⊢
  rw [hb.block _ hB]
  exact h
theorem St.below {w w' : World} {B : Nat} (h : St w) (hb : Below B w w') (hB : 3 ≤ B) : St w' where
  tab := tab_on h.tab hb (by omega)
  sz := Nat.le_trans h.sz hb.size
theorem St.on {w w' : World} (h : St w) (hb : Below w.heap.size w w') : St w' := h.below hb h.sz
theorem below_grow {B : Nat} {a w : World} (h : Below B a w) (hB : B ≤ w.heap.size) (os : Array Obj) : Below B a (grow w os) :=
  h.trans ⟨rfl, rfl, rfl, by simp, fun k hk => by show (w.heap ++ os)[k]? = _; rw [Array.getElem?_append, if_pos (by omega)]⟩

/-- The decimal text of an int. -/
def itS (n : Int) : ByteArray := ⟨(Lib.itoa n).toArray⟩
theorem itoa_any (n : Int) (hn : I64 n) (w : World) (hs : St w) :
    Calls Tryd.prog 40 #[.int .i64 n] w fun e w' => e = .returned (.string (itS n)) ∧ Below w.heap.size w w' :=
  (Tryd.strconv_Itoa n hn.1 hn.2 w hs.tab).mono fun e w' ⟨he, k, os, hw⟩ => ⟨he, by subst hw; exact below_grow (below_drewN' (Below.refl _ _) k) (Nat.le_refl _) os⟩
theorem itS_size (n : Int) (hn : I64 n) : (itS n).size ≤ 21 := by
  have h := Lib.itoa_length_le n hn.1 hn.2
  unfold itS
  simpa [ByteArray.size] using h
theorem add_run (a b : ByteArray) (h : a.size + b.size ≤ 1000000) (w : World) : (Op.stringOp .add a b).run Tryd.prog w = .ok (.string (a ++ b)) w :=
  run_string_add_sum _ _ _ (by omega)

/-- A string's bytes as numbers. -/
def strB (s : ByteArray) : List Int := s.data.toList.map fun b => (b.toNat : Int)
theorem strB_app (a b : ByteArray) : strB (a ++ b) = strB a ++ strB b := by simp [strB]
theorem strB_len (s : ByteArray) : (strB s).length = s.size := by simp [strB]
theorem strB_u (s : ByteArray) : ∀ x ∈ strB s, U8 x := by
  intro x hx
  obtain ⟨b, _, rfl⟩ := List.mem_map.1 hx
  have := b.toNat_lt
  exact ⟨by omega, by omega⟩
theorem strB_cells (s : ByteArray) : Lib.strCells s = (strB s).map (Value.int .u8) := by simp [Lib.strCells, strB]
/-- The bytes of the text of an int, and of a list of ints. -/
def txI (n : Int) : List Int := (Lib.itoa n).map fun b => (b.toNat : Int)
theorem txI_it (n : Int) : strB (itS n) = txI n := by simp [strB, itS, txI]
def txs (xs : List Int) : List Int := xs.flatMap fun n => txI n ++ [32]
theorem txs_take {xs : List Int} {k : Nat} (h : k < xs.length) : txs (xs.take (k + 1)) = txs (xs.take k) ++ (txI (gd xs k) ++ [32]) := by
  rw [take_k h]; simp [txs]
theorem txI_len {n : Int} (h : I64 n) : (txI n).length ≤ 21 := by rw [← txI_it, strB_len]; exact itS_size n h
theorem txI_u (n : Int) : ∀ x ∈ txI n, U8 x := by rw [← txI_it]; exact strB_u _
theorem txs_u (xs : List Int) : ∀ x ∈ txs xs, U8 x := by
  intro x hx
  obtain ⟨n, _, h⟩ := List.mem_flatMap.1 hx
  rcases List.mem_append.1 h with h | h
  · exact txI_u n x h
  · simp at h; subst h; constructor <;> decide

/-- What a string's conversion leaves. -/
theorem conv_below (w : World) (e : TypeId) (s : ByteArray) : Below w.heap.size w (Lib.bytesWorld w e s) := by
  unfold Lib.bytesWorld
  refine ⟨rfl, rfl, rfl, ?_, ?_⟩
  · have := Lib.bytesWorld_size w e s; unfold Lib.bytesWorld at this; omega
  · intro k hk; have := Lib.bytesWorld_at_old w e s k hk; unfold Lib.bytesWorld at this; exact this
theorem conv_sk (w : World) (e : TypeId) (s : ByteArray) : Sk .u8 (Lib.bytesWorld w e s) (some ⟨w.heap.size, 0, none⟩) (strB s) := by
  intro j hj
  rw [strB_len] at hj
  refine ⟨w.heap.size, 0, rfl, ?_⟩
  rw [Nat.zero_add, Lib.bytesWorld_cell w e s j hj]
  have hl : j < s.data.toList.length := by simpa using hj
  simp only [gd, strB, List.getD_eq_getElem?_getD, List.getElem?_map, List.getElem?_eq_getElem hl, Option.map_some, Option.getD_some]

set_option maxRecDepth 100000 in
set_option maxHeartbeats 800000 in
theorem ints_any (A : Option Addr) (C : Nat) (xs : List Int) (w : World) (hs : St w) (hl : xs.length ≤ 9223372036854775807) (hi : ∀ x ∈ xs, I64 x) (h : Sk .i64 w A xs) :
    Calls Tryd.prog 34 #[.slice A xs.length C] w fun e w' => e = .returned (.int .u64 (dig (txs xs))) ∧ Below w.heap.size w w' := by
  have H := Lib.hid h
  have HS := Lib.hid hs
  have HT := Lib.hid (fun k (hk : k < xs.length) => hi _ (getD_mem hk))
  have hcv : ∀ (s : ByteArray) (W : World), (convert 9 53 (.string s)).run Tryd.prog W = .ok (.slice (some ⟨W.heap.size, 0, none⟩) s.size (grownCap W s.size 0 5)) (Lib.bytesWorld W 5 s) := fun s W => Lib.run_convert_string_bytes W _ _ _ s Tryd.underlying9 Tryd.underlying53 Tryd.underlying5
  clear h hs hi
  go_enter Tryd.func34, Tryd.ntmps34
  go_wp2_with fail
  go_loopw [3, 8] (fun t i wr => ∃ k : Nat, k ≤ xs.length ∧ i = .int .i64 k ∧ t = .int .u64 (dig (txs (xs.take k))) ∧ Below w.heap.size w wr) (fun _ i _ => xs.length - (intOf i).toNat)
  case atStart => exact ⟨0, Nat.zero_le _, rfl, rfl, Below.refl _ _⟩
  case round =>
    obtain ⟨k, hk, rfl, rfl, hb⟩ := hrel
    by_cases hlt : k < xs.length
    · obtain ⟨b, o, rfl, hc0⟩ := H.out k hlt
      have hc : wr.cell? ⟨b, o + k, none⟩ = some (.int .i64 (gd xs k)) := cell_on hb (block_lt hc0) hc0
      have HI := HT.out k hlt
      obtain ⟨T, hT⟩ : ∃ T : ByteArray, T = itS (gd xs k) ++ ⟨#[32]⟩ := ⟨_, rfl⟩
      have HE := Lib.hid (show fnv (dig (txs (xs.take k))) (strB T) = dig (txs (xs.take (k + 1))) by
        rw [txs_take hlt, hT, strB_app, txI_it]; unfold dig; rw [← fnv_app]; rfl)
      have hTs : T.size ≤ 22 := by rw [hT, ByteArray.size_append]; have := itS_size _ HI; have h1 : (⟨#[32]⟩ : ByteArray).size = 1 := rfl; omega
      have ca : ∀ W, (Op.stringOp .add (itS (gd xs k)) ⟨#[32]⟩).run Tryd.prog W = .ok (.string T) W := fun W => by rw [hT]; exact add_run _ _ (by have := itS_size _ HI; have h1 : (⟨#[32]⟩ : ByteArray).size = 1 := rfl; omega) W
      have HA := Lib.hid HI
      clear hT
      generalize gd xs k = x at *
      generalize dig (txs (xs.take k)) = g at *
      clear hc0 HI
      go_wp2_with fail
      refine (itoa_any x HA.out _ (HS.out.on hb)).mono ?_
      rintro e w1 ⟨rfl, hb1⟩
      go_wp2_with fail
      have hx := extend_any g (some ⟨w1.heap.size, 0, none⟩) (grownCap w1 T.size 0 5) (strB T) (Lib.bytesWorld w1 5 T) (by rw [strB_len]; omega) (conv_sk _ _ _)
      rw [strB_len, HE.out] at hx
      have hB := on_below hb (on_below hb1 (conv_below w1 5 T))
      refine hx.mono ?_
      rintro e w' ⟨rfl, rfl⟩
      clear hx hb hb1 ca hcv hc
      go_wp2_with fail
      go_roundw
      case rel => exact ⟨k + 1, by omega, by go_num, rfl, hB⟩
      case measure => simp [intOf]; omega
    · rw [List.take_of_length_le (by omega)]
      go_wp2_with fail
      go_ret
      exact ⟨rfl, hb⟩
end Go.Proofs.YtiapigoknlaihaaDoor
