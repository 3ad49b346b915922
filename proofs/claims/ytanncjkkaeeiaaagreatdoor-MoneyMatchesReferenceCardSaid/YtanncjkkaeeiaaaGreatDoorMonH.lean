/-
  What the variables hold, in every world that a call comes to; strconv.Itoa; package money: the text of an amount, and Text.
-/
import Derived.Test.YtanncjkkaeeiaaaGreatDoorMonG
import Derived.Lib.ItoaMem
import Derived.Lib.ItoaLen
namespace Go.Proofs.YtanncjkkaeeiaaaGreatDoor
open Go.RowKit Go.Sort
open Go.RowKit (Below)

abbrev chf : ByteArray := ⟨#[67, 72, 70]⟩
abbrev eur : ByteArray := ⟨#[69, 85, 82]⟩
/-- What the variables hold. -/
structure St (w : World) : Prop where
  tab : Lib.TabIs Tryz.prog w "internal/strconv.uint64pow10" .u64 Lib.pow10Tab
  n0 : w.cell? ⟨0, 0, none⟩ = some (.string chf)
  n1 : w.cell? ⟨0, 1, none⟩ = some (.string eur)
  sz : 7 ≤ w.heap.size

theorem tabNamed : Tryz.prog.globalNamed "internal/strconv.uint64pow10" = some 4 := by kernel_rfl

theorem tab_on {w w' : World} {B : Nat} (h : Lib.TabIs Tryz.prog w "internal/strconv.uint64pow10" .u64 Lib.pow10Tab) (hb : Below B w w') (hB : 4 < B) : Lib.TabIs Tryz.prog w' "internal/strconv.uint64pow10" .u64 Lib.pow10Tab := by
  unfold Lib.TabIs World.var? at h ⊢
  rw [tabNamed] at h ⊢
  simp only [Option.bind_some] at h ⊢
  rw [hb.block _ hB]
  exact h

theorem St.below {w w' : World} {B : Nat} (h : St w) (hb : Below B w w') (hB : 7 ≤ B) : St w' where
  tab := tab_on h.tab hb (by omega)
  n0 := by rw [hb.cell (by simp; omega)]; exact h.n0
  n1 := by rw [hb.cell (by simp; omega)]; exact h.n1
  sz := Nat.le_trans h.sz hb.size

theorem below_grow {B : Nat} {a w : World} (h : Below B a w) (hB : B ≤ w.heap.size) (os : Array Obj) : Below B a (grow w os) :=
  h.trans ⟨rfl, rfl, rfl, by simp, fun k hk => by show (w.heap ++ os)[k]? = _; rw [Array.getElem?_append, if_pos (by omega)]⟩

/-- The decimal text of an int. -/
def itS (n : Int) : ByteArray := ⟨(Lib.itoa n).toArray⟩

theorem itoa_any (n : Int) (hn : I64 n) (w : World) (hs : St w) :
    Calls Tryz.prog 47 #[.int .i64 n] w fun e w' => e = .returned (.string (itS n)) ∧ Below w.heap.size w w' :=
  (Tryz.strconv_Itoa n hn.1 hn.2 w hs.tab).mono fun e w' ⟨he, k, os, hw⟩ => ⟨he, by subst hw; exact below_grow (below_drewN' (Below.refl _ _) k) (Nat.le_refl _) os⟩

theorem itS_size (n : Int) (hn : I64 n) : (itS n).size ≤ 21 := by
  have h := Lib.itoa_length_le n hn.1 hn.2
  unfold itS
  simpa [ByteArray.size] using h

theorem add_run (a b : ByteArray) (h : a.size + b.size ≤ 1000) (w : World) : (Op.stringOp .add a b).run Tryz.prog w = .ok (.string (a ++ b)) w :=
  run_string_add_sum _ _ _ (by omega)

theorem ret_str {a b : ByteArray} (h : a = b) : Ending.returned (.string a) = .returned (.string b) := by rw [h]
/-- The text of an amount. -/
def sgT (c : Int) : ByteArray := if c < 0 then ⟨#[45]⟩ else ⟨#[]⟩
def mtx (c : Int) : ByteArray := sgT c ++ itS (c.natAbs / 100) ++ ⟨#[46]⟩ ++ itS (c.natAbs / 10 % 10) ++ itS (c.natAbs % 10)
theorem sgT_size (c : Int) : (sgT c).size ≤ 1 := by unfold sgT; split <;> simp [ByteArray.size]
theorem pt_size : (⟨#[46]⟩ : ByteArray).size = 1 := rfl

set_option maxRecDepth 100000 in
set_option maxHeartbeats 800000 in
theorem text_amt (c : Int) (w : World) (hc : Bd c) (hs : St w) :
    Calls Tryz.prog 29 #[.int .i64 c] w fun e w' => e = .returned (.string (mtx c)) ∧ Below w.heap.size w w' := by
  have hc1 := hc.1
  have hc2 := hc.2
  have HS := Lib.hid hs
  clear hs hc
  have i1 : I64 ((c.natAbs : Int) / 100) := ⟨by omega, by omega⟩
  have i2 : I64 ((c.natAbs : Int) / 10 % 10) := ⟨by omega, by omega⟩
  have i3 : I64 ((c.natAbs : Int) % 10) := ⟨by omega, by omega⟩
  have l0 := sgT_size c
  have l1 := itS_size _ i1
  have l2 := itS_size _ i2
  have l3 := itS_size _ i3
  have HI1 := Lib.hid i1
  have HI2 := Lib.hid i2
  have HI3 := Lib.hid i3
  clear i1 i2 i3
  have HM := Lib.hid (show mtx c = sgT c ++ itS (c.natAbs / 100) ++ ⟨#[46]⟩ ++ itS (c.natAbs / 10 % 10) ++ itS (c.natAbs % 10) from rfl)
  have c1 : ∀ w, (Op.stringOp .add (sgT c) (itS (c.natAbs / 100))).run Tryz.prog w = .ok (.string (sgT c ++ itS (c.natAbs / 100))) w := fun w => add_run _ _ (by omega) w
  have c2 : ∀ w, (Op.stringOp .add (sgT c ++ itS (c.natAbs / 100)) ⟨#[46]⟩).run Tryz.prog w = .ok (.string (sgT c ++ itS (c.natAbs / 100) ++ ⟨#[46]⟩)) w := fun w => add_run _ _ (by rw [ByteArray.size_append, pt_size]; omega) w
  have c3 : ∀ w, (Op.stringOp .add (sgT c ++ itS (c.natAbs / 100) ++ ⟨#[46]⟩) (itS (c.natAbs / 10 % 10))).run Tryz.prog w = .ok (.string (sgT c ++ itS (c.natAbs / 100) ++ ⟨#[46]⟩ ++ itS (c.natAbs / 10 % 10))) w := fun w => add_run _ _ (by rw [ByteArray.size_append, ByteArray.size_append, pt_size]; omega) w
  have c4 : ∀ w, (Op.stringOp .add (sgT c ++ itS (c.natAbs / 100) ++ ⟨#[46]⟩ ++ itS (c.natAbs / 10 % 10)) (itS (c.natAbs % 10))).run Tryz.prog w = .ok (.string (sgT c ++ itS (c.natAbs / 100) ++ ⟨#[46]⟩ ++ itS (c.natAbs / 10 % 10) ++ itS (c.natAbs % 10))) w := fun w => add_run _ _ (by rw [ByteArray.size_append, ByteArray.size_append, ByteArray.size_append, pt_size]; omega) w
  clear l0 l1 l2 l3
  by_cases h0 : c < 0
  · have hg : sgT c = ⟨#[45]⟩ := by simp [sgT, h0]
    rw [hg] at c1 c2 c3 c4 HM
    clear hg
    generalize mtx c = M at *
    go_enter Tryz.func29, Tryz.ntmps29
    go_wp2_with (first
      | (go_at_call 38; refine (abs_amt _ _ (by omega) (by omega)).mono ?_; rintro e w' ⟨rfl, rfl⟩))
    refine (itoa_any _ HI1.out _ HS.out).mono ?_
    rintro e w1 ⟨rfl, hb1⟩
    go_wp2_with fail
    refine (itoa_any _ HI2.out _ (HS.out.below hb1 HS.out.sz)).mono ?_
    rintro e w2 ⟨rfl, hb2⟩
    go_wp2_with fail
    refine (itoa_any _ HI3.out _ (HS.out.below (hb1.trans (hb2.mono hb1.size)) HS.out.sz)).mono ?_
    rintro e w3 ⟨rfl, hb3⟩
    go_wp2_with fail
    go_ret
    exact ⟨ret_str HM.out.symm, (hb1.trans (hb2.mono hb1.size)).trans (hb3.mono (Nat.le_trans hb1.size hb2.size))⟩
  · have hg : sgT c = ⟨#[]⟩ := by simp [sgT, h0]
    rw [hg] at c1 c2 c3 c4 HM
    clear hg
    generalize mtx c = M at *
    go_enter Tryz.func29, Tryz.ntmps29
    go_wp2_with (first
      | (go_at_call 38; refine (abs_amt _ _ (by omega) (by omega)).mono ?_; rintro e w' ⟨rfl, rfl⟩))
    refine (itoa_any _ HI1.out _ HS.out).mono ?_
    rintro e w1 ⟨rfl, hb1⟩
    go_wp2_with fail
    refine (itoa_any _ HI2.out _ (HS.out.below hb1 HS.out.sz)).mono ?_
    rintro e w2 ⟨rfl, hb2⟩
    go_wp2_with fail
    refine (itoa_any _ HI3.out _ (HS.out.below (hb1.trans (hb2.mono hb1.size)) HS.out.sz)).mono ?_
    rintro e w3 ⟨rfl, hb3⟩
    go_wp2_with fail
    go_ret
    exact ⟨ret_str HM.out.symm, (hb1.trans (hb2.mono hb1.size)).trans (hb3.mono (Nat.le_trans hb1.size hb2.size))⟩

def nmT (f : Int) : ByteArray := if f = 1 then eur else chf
theorem nmT_size (f : Int) : (nmT f).size = 3 := by unfold nmT; split <;> rfl
theorem sp_size : (⟨#[32]⟩ : ByteArray).size = 1 := rfl
theorem mtx_size (c : Int) (h : Bd c) : (mtx c).size ≤ 65 := by
  unfold mtx
  have l0 := sgT_size c
  have l1 := itS_size ((c.natAbs : Int) / 100) ⟨by omega, by have := h.1; have := h.2; omega⟩
  have l2 := itS_size ((c.natAbs : Int) / 10 % 10) ⟨by omega, by have := h.1; have := h.2; omega⟩
  have l3 := itS_size ((c.natAbs : Int) % 10) ⟨by omega, by have := h.1; have := h.2; omega⟩
  simp only [ByteArray.size_append, pt_size]
  omega
/-- The text of an amount with its currency. -/
def mtc (c f : Int) : ByteArray := nmT f ++ ⟨#[32]⟩ ++ mtx c

set_option maxRecDepth 100000 in
set_option maxHeartbeats 800000 in
theorem text_ok (c f : Int) (w : World) (ha : am c = true) (hf : cur f = true) (hs : St w) :
    Calls Tryz.prog 13 #[.int .i64 c, .int .i64 f] w fun e w' => e = .returned (.tuple #[.string (mtc c f), .int .i64 0]) ∧ Below w.heap.size w w' := by
  have hc := am_bd.1 ha
  have HT := Lib.hid (fun W h => text_amt c W hc h)
  have l1 := mtx_size c hc
  have c1 : ∀ w, (Op.stringOp .add (nmT f) ⟨#[32]⟩).run Tryz.prog w = .ok (.string (nmT f ++ ⟨#[32]⟩)) w := fun w => add_run _ _ (by rw [nmT_size, sp_size]; omega) w
  have c2 : ∀ w, (Op.stringOp .add (nmT f ++ ⟨#[32]⟩) (mtx c)).run Tryz.prog w = .ok (.string (mtc c f)) w := fun w => add_run _ _ (by rw [ByteArray.size_append, nmT_size, sp_size]; omega) w
  have HS := Lib.hid hs
  have HA := Lib.hid ha
  have HF := Lib.hid hf
  clear hs l1 hc ha
  rcases cur_iff.1 hf with rfl | rfl
  · clear hf
    rw [show nmT 0 = chf from rfl] at c1 c2
    have n0 := HS.out.n0
    have hl := block_lt n0
    generalize mtc c 0 = M at *
    generalize mtx c = X at *
    go_enter Tryz.func13, Tryz.ntmps13
    go_wp2_with (first
      | (go_at_call 19; refine (valid_amt_b _ true HA.out _).mono ?_; rintro e w' ⟨rfl, rfl⟩)
      | (go_at_call 28; refine (cur_b _ true HF.out _).mono ?_; rintro e w' ⟨rfl, rfl⟩))
    go_region_held3 (fun w' => w'.cell? ⟨0, 0, none⟩ = some (.string chf) ∧ Below w.heap.size w w')
      (first | exact ⟨by simp [go_sem, n0], (Below.refl _ _).drew⟩ | (go_split_ands; exact ⟨by rw [hb.cell (block_lt (by assumption))]; assumption, Below.trans (by assumption) (hb.mono (Below.size (by assumption)))⟩))
      (first | (go_at_call 29; refine (HT.out _ ?_).mono ?_; (go_split_ands; exact HS.out.below (by assumption) HS.out.sz); rintro e w1 ⟨rfl, hb⟩))
    go_wp2
    go_ret2
    go_split_ands
    exact ⟨rfl, by assumption⟩
  · clear hf
    rw [show nmT 1 = eur from rfl] at c1 c2
    have n0 := HS.out.n1
    have hl := block_lt n0
    generalize mtc c 1 = M at *
    generalize mtx c = X at *
    go_enter Tryz.func13, Tryz.ntmps13
    go_wp2_with (first
      | (go_at_call 19; refine (valid_amt_b _ true HA.out _).mono ?_; rintro e w' ⟨rfl, rfl⟩)
      | (go_at_call 28; refine (cur_b _ true HF.out _).mono ?_; rintro e w' ⟨rfl, rfl⟩))
    go_region_held3 (fun w' => w'.cell? ⟨0, 1, none⟩ = some (.string eur) ∧ Below w.heap.size w w')
      (first | exact ⟨by simp [go_sem, n0], (Below.refl _ _).drew⟩ | (go_split_ands; exact ⟨by rw [hb.cell (block_lt (by assumption))]; assumption, Below.trans (by assumption) (hb.mono (Below.size (by assumption)))⟩))
      (first | (go_at_call 29; refine (HT.out _ ?_).mono ?_; (go_split_ands; exact HS.out.below (by assumption) HS.out.sz); rintro e w1 ⟨rfl, hb⟩))
    go_wp2
    go_ret2
    go_split_ands
    exact ⟨rfl, by assumption⟩

theorem text_bad (c f : Int) (w : World) (h : (am c && cur f) = false) :
    Calls Tryz.prog 13 #[.int .i64 c, .int .i64 f] w fun e w' => e = .returned (.tuple #[.string ⟨#[]⟩, .int .i64 1]) ∧ w = w' := by
  cases hc : am c with
  | false =>
    have HA := Lib.hid hc
    clear hc h
    go_enter Tryz.func13, Tryz.ntmps13
    go_wp2_with (first
      | (go_at_call 19; refine (valid_amt_b _ false HA.out _).mono ?_; rintro e w' ⟨rfl, rfl⟩))
    go_ret2
    exact ⟨rfl, rfl⟩
  | true =>
    have hf : cur f = false := by rw [hc] at h; simpa using h
    have HA := Lib.hid hc
    have HF := Lib.hid hf
    clear hc hf h
    go_enter Tryz.func13, Tryz.ntmps13
    go_wp2_with (first
      | (go_at_call 19; refine (valid_amt_b _ true HA.out _).mono ?_; rintro e w' ⟨rfl, rfl⟩)
      | (go_at_call 28; refine (cur_b _ false HF.out _).mono ?_; rintro e w' ⟨rfl, rfl⟩))
    go_ret2
    exact ⟨rfl, rfl⟩
end Go.Proofs.YtanncjkkaeeiaaaGreatDoor
