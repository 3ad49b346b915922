/-
  What the library's variables hold, in every world that a call comes to; strconv.Itoa; package rational: write returns the text of a pair.
-/
import Derived.Test.YtpmlfchbihoflaaDoorRatJ
import Derived.Test.YtpmlfchbihoflaaDoorShelf
import Derived.Lib.ItoaMem
import Derived.Lib.ItoaLen
import Derived.Deep.RegionHeld3
import Derived.Deep.RegionWith
namespace Go.Proofs.YtpmlfchbihoflaaDoor
open Go.RowKit Go.Sort
open Go.RowKit (Below)

/-- What the library's variables hold. -/
structure St (w : World) : Prop where
  tab : Lib.TabIs Tryd.prog w "internal/strconv.uint64pow10" .u64 Lib.pow10Tab
  ml : ∃ m, w.cell? ⟨0, 0, none⟩ = some (.int .i64 m)
  es : ∃ te pe, w.cell? ⟨2, 0, none⟩ = some (.iface te pe)
  er : ∃ te pe, w.cell? ⟨3, 0, none⟩ = some (.iface te pe)
  sz : 6 ≤ w.heap.size

theorem tabNamed : Tryd.prog.globalNamed "internal/strconv.uint64pow10" = some 1 := by kernel_rfl

theorem tab_on {w w' : World} {B : Nat} (h : Lib.TabIs Tryd.prog w "internal/strconv.uint64pow10" .u64 Lib.pow10Tab) (hb : Below B w w') (hB : 1 < B) : Lib.TabIs Tryd.prog w' "internal/strconv.uint64pow10" .u64 Lib.pow10Tab := by
  unfold Lib.TabIs World.var? at h ⊢
  rw [tabNamed] at h ⊢
  simp only [Option.bind_some] at h ⊢
  rw [hb.block _ hB]
  exact h

theorem St.below {w w' : World} {B : Nat} (h : St w) (hb : Below B w w') (hB : 6 ≤ B) : St w' where
  tab := tab_on h.tab hb (by omega)
  ml := by obtain ⟨m, hm⟩ := h.ml; exact ⟨m, by rw [hb.cell (by simp; omega)]; exact hm⟩
  es := by obtain ⟨m, p, hm⟩ := h.es; exact ⟨m, p, by rw [hb.cell (by simp; omega)]; exact hm⟩
  er := by obtain ⟨m, p, hm⟩ := h.er; exact ⟨m, p, by rw [hb.cell (by simp; omega)]; exact hm⟩
  sz := Nat.le_trans h.sz hb.size

theorem below_grow {B : Nat} {a w : World} (h : Below B a w) (hB : B ≤ w.heap.size) (os : Array Obj) : Below B a (grow w os) :=
  h.trans ⟨rfl, rfl, rfl, by simp, fun k hk => by show (w.heap ++ os)[k]? = _; rw [Array.getElem?_append, if_pos (by omega)]⟩

/-- The decimal text of an int. -/
def itS (n : Int) : ByteArray := ⟨(Lib.itoa n).toArray⟩

theorem itoa_any (n : Int) (hn : I64 n) (w : World) (hs : St w) :
    Calls Tryd.prog 57 #[.int .i64 n] w fun e w' => e = .returned (.string (itS n)) ∧ Below w.heap.size w w' :=
  (Tryd.strconv_Itoa n hn.1 hn.2 w hs.tab).mono fun e w' ⟨he, k, os, hw⟩ => ⟨he, by subst hw; exact below_grow (below_drewN' (Below.refl _ _) k) (Nat.le_refl _) os⟩

set_option maxHeartbeats 400000 in
theorem write_one (n : Int) (hn : I64 n) (w : World) (hs : St w) :
    Calls Tryd.prog 47 #[.agg #[.int .i64 n, .int .i64 1]] w fun e w' => e = .returned (.string (itS n)) ∧ Below w.heap.size w w' := by
  go_enter Tryd.func47, Tryd.ntmps47
  go_wp2_with fail
  refine (itoa_any n hn _ (hs.below ((Below.refl _ _).alloc (Nat.le_refl _) _) hs.sz)).mono ?_
  rintro e w1 ⟨rfl, hb⟩
  go_wp2_with fail
  go_ret
  exact ⟨rfl, ((Below.refl _ _).alloc (Nat.le_refl _) _).trans (hb.mono (by simp))⟩

theorem itS_size (n : Int) (hn : I64 n) : (itS n).size ≤ 21 := by
  have h := Lib.itoa_length_le n hn.1 hn.2
  unfold itS
  simpa [ByteArray.size] using h

theorem add_run (a b : ByteArray) (h : a.size + b.size ≤ 100) (w : World) : (Op.stringOp .add a b).run Tryd.prog w = .ok (.string (a ++ b)) w :=
  run_string_add_sum _ _ _ (by omega)
theorem slash_size : (⟨#[47]⟩ : ByteArray).size = 1 := rfl

set_option maxHeartbeats 400000 in
theorem write_two (n d : Int) (hn : I64 n) (hd : I64 d) (h1 : (d == 1) = false) (w : World) (hs : St w) :
    Calls Tryd.prog 47 #[.agg #[.int .i64 n, .int .i64 d]] w fun e w' => e = .returned (.string (itS n ++ ⟨#[47]⟩ ++ itS d)) ∧ Below w.heap.size w w' := by
  have HS := Lib.hid hs; clear hs
  have l1 := itS_size n hn
  have l2 := itS_size d hd
  have c1 : ∀ w, (Op.stringOp .add (itS n) ⟨#[47]⟩).run Tryd.prog w = .ok (.string (itS n ++ ⟨#[47]⟩)) w := fun w => add_run _ _ (by rw [slash_size]; omega) w
  have c2 : ∀ w, (Op.stringOp .add (itS n ++ ⟨#[47]⟩) (itS d)).run Tryd.prog w = .ok (.string (itS n ++ ⟨#[47]⟩ ++ itS d)) w := fun w => add_run _ _ (by rw [ByteArray.size_append, slash_size]; omega) w
  clear l1 l2
  go_enter Tryd.func47, Tryd.ntmps47
  go_wp2_with fail
  go_region_held3 (fun w' => w'.cell? ⟨w.heap.size, 0, none⟩ = some (.int .i64 n) ∧ w'.cell? ⟨w.heap.size, 1, none⟩ = some (.int .i64 d) ∧ Below w.heap.size w w' ∧ w.heap.size < w'.heap.size)
    (first | exact ⟨by simp [go_sem], by simp [go_sem], ((Below.refl _ _).alloc (Nat.le_refl _) _).drew, by simp⟩ | (go_split_ands; exact ⟨by rw [hb.cell (by assumption)]; assumption, by rw [hb.cell (by assumption)]; assumption, Below.trans (by assumption) (hb.mono (by omega)), by have := hb.size; omega⟩))
    (first | (go_at_call 57; refine (itoa_any _ (by assumption) _ ?_).mono ?_; (go_split_ands; exact HS.out.below (by assumption) HS.out.sz); rintro e w1 ⟨rfl, hb⟩))
  go_wp2
  go_ret
  go_split_ands
  exact ⟨rfl, by assumption⟩

/-- The text of a pair. -/
def txt (n d : Int) : ByteArray := if d = 1 then itS n else itS n ++ ⟨#[47]⟩ ++ itS d

theorem write_any (n d : Int) (hn : I64 n) (hd : I64 d) (w : World) (hs : St w) :
    Calls Tryd.prog 47 #[.agg #[.int .i64 n, .int .i64 d]] w fun e w' => e = .returned (.string (txt n d)) ∧ Below w.heap.size w w' := by
  unfold txt
  split
  · rename_i h; subst h; exact write_one n hn w hs
  · rename_i h; exact write_two n d hn hd (by simpa using h) w hs
end Go.Proofs.YtpmlfchbihoflaaDoor
