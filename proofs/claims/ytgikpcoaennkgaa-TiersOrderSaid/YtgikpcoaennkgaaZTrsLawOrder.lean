/-
  TiersOrder.
-/
import Derived.Test.YtgikpcoaennkgaaZTrsX
import Derived.Test.YtgikpcoaennkgaaRows
import Derived.ProofKit
import Derived.OpenShut
import Derived.Deep.DeepHandedRow
import Derived.Deep.DeepWitnessRowRef
import Derived.MakeChecks
import Derived.Deep.DeepCutAuto
namespace Go.Proofs.Ytgikpcoaennkgaa.LawOrder
open Go.RowKit Go.Sort
open Go.RowKit (Below)
set_option linter.unusedVariables false
set_option linter.unusedSimpArgs false
attribute [local go_sem] Oper.semAt_some

/-- Where the other list takes its number k from. -/
def sg (n b k : Nat) : Nat := (n - 1 - k + b) % n
theorem sg_lt {n b k : Nat} (h : k < n) : sg n b k < n := Nat.mod_lt _ (by omega)
theorem sg_sg {n b k : Nat} (h : k < n) : sg n b (sg n b k) = k := by
  have h0 : sg n b k < n := sg_lt h
  have h1 : n * ((n - 1 - k + b) / n) + sg n b k = n - 1 - k + b := Nat.div_add_mod _ _
  generalize (n - 1 - k + b) / n = q at h1
  generalize hs : sg n b k = s at *
  have h2 : n - 1 - s + b = k + n * q := by omega
  show (n - 1 - s + b) % n = k
  rw [h2, Nat.add_mul_mod_self_left, Nat.mod_eq_of_lt h]
theorem sg_tmod {n k : Nat} {b : Int} (h : k < n) (hb : 0 ≤ b) : Int.tmod ((n : Int) - 1 - k + b) n = (sg n b.toNat k : Int) := by
  have e : (n : Int) - 1 - k + b = ((n - 1 - k + b.toNat : Nat) : Int) := by omega
  rw [e, Int.tmod_eq_emod_of_nonneg (by omega)]
  exact (Int.natCast_emod _ _).symm
/-- The other list. -/
def oth (X : List Int) (b : Nat) : List Int := (List.range X.length).map fun k => gdI X (sg X.length b k)
theorem oth_len (X : List Int) (b : Nat) : (oth X b).length = X.length := by simp [oth]
theorem oth_at {X : List Int} {b k : Nat} (h : k < X.length) : gdI (oth X b) k = gdI X (sg X.length b k) := gdI_map _ _ h
theorem oth_back {X : List Int} {b k : Nat} (h : k < X.length) : gdI X k = gdI (oth X b) (sg X.length b k) := by rw [oth_at (sg_lt h), sg_sg h]
theorem oth_mem (X : List Int) (b : Nat) (x : Int) : x ∈ oth X b ↔ x ∈ X := by
  rw [mem_gdI, mem_gdI, oth_len]
  constructor
  · rintro ⟨k, hk, e⟩
    exact ⟨_, sg_lt hk, by rw [← oth_at hk]; exact e⟩
  · rintro ⟨k, hk, e⟩
    exact ⟨_, sg_lt hk, by rw [← oth_back hk]; exact e⟩
theorem dsti_ne {X : List Int} : DstI X X.length ↔ ∀ i j, i < X.length → j < X.length → i ≠ j → gdI X i ≠ gdI X j := by
  constructor
  · intro h i j hi hj hn
    rcases Nat.lt_or_gt_of_ne hn with c | c
    · exact h i j c hj
    · exact fun e => h j i c hi e.symm
  · exact fun h i j c hj => h i j (by omega) hj (by omega)
theorem oth_dst (X : List Int) (b : Nat) : DstI (oth X b) (oth X b).length ↔ DstI X X.length := by
  rw [dsti_ne, dsti_ne, oth_len]
  have inj : ∀ i j, i < X.length → j < X.length → i ≠ j → sg X.length b i ≠ sg X.length b j := fun i j hi hj hn e => hn (by rw [← sg_sg (b := b) hi, e, sg_sg hj])
  constructor
  · intro h i j hi hj hn
    rw [oth_back (b := b) hi, oth_back (b := b) hj]
    exact h _ _ (sg_lt hi) (sg_lt hj) (inj i j hi hj hn)
  · intro h i j hi hj hn
    rw [oth_at hi, oth_at hj]
    exact h _ _ (sg_lt hi) (sg_lt hj) (inj i j hi hj hn)
theorem all_mem {P : Int → Prop} {X : List Int} : (∀ k, k < X.length → P (gdI X k)) ↔ ∀ x, x ∈ X → P x := by
  constructor
  · intro h x hx
    obtain ⟨k, hk, rfl⟩ := mem_gdI.1 hx
    exact h k hk
  · exact fun h k hk => h _ (mem_gdI.2 ⟨k, hk, rfl⟩)
theorem oth_all {P : Int → Prop} (X : List Int) (b : Nat) : (∀ k, k < (oth X b).length → P (gdI (oth X b) k)) ↔ ∀ k, k < X.length → P (gdI X k) := by
  rw [all_mem, all_mem]
  exact ⟨fun h x hx => h x ((oth_mem X b x).2 hx), fun h x hx => h x ((oth_mem X b x).1 hx)⟩
theorem oth_sui {ok : Pl → Bool} {L : List Pl} {X : List Int} {b : Nat} {E : Int} (h : Sui ok L X E) : Sui ok L (oth X b) E := by
  unfold Sui at h ⊢
  rw [oth_dst, oth_all (P := fun x => ixP L x < L.length), oth_len]
  exact h
theorem oth_prt (L : List Pl) (X : List Int) (b : Nat) : prt L (oth X b) = prt L X := by
  have : sel L (oth X b) = sel L X := by
    unfold sel
    congr 1
    funext i
    exact decide_eq_decide.2 (oth_mem X b _)
  unfold prt selP
  rw [this]
theorem oth_take {X : List Int} {b k : Nat} (h : k < X.length) {Y : List Int} (hY : Y = (oth X b).take k) : Y ++ [gdI X (sg X.length b k)] = (oth X b).take (k + 1) := by
  have hk : k < (oth X b).length := by rw [oth_len]; exact h
  rw [hY, List.take_succ_eq_append_getElem hk, ← oth_at h, gdI_at hk]
set_option maxRecDepth 100000 in
set_option maxHeartbeats 4000000 in
theorem ord_0 (lA : Option Addr) (lC : Nat) (l : List Pl) (xA : Option Addr) (xC : Nat) (X : List Int) (b : Int) (h : ¬ l.length ≤ 40) (w : World) (hl : PlS w lA l) (hx : InS w xA X) :
    Calls Try.prog 6 #[.slice lA l.length lC, .slice xA X.length xC, .int .u8 b] w fun e_ w' => e_ = .returned (.bool true) ∧ Below w.heap.size w w' := by
  have CF := Lib.hid (few12_is lA lC l false (by simp; omega))
  have HL := Lib.hid hl
  have HX := Lib.hid hx
  clear hl hx
  have HB := Lib.hid (Below.refl w.heap.size w)
  go_enter Try.func6, Try.ntmps6
  go_wp2_with fail
  with_reducible refine (head12_any _).mono ?_
  rintro e_ w1 ⟨rfl, hb⟩
  replace HB := Lib.hid (on_below HB.out hb)
  replace HL := Lib.hid (HL.out.below hb)
  replace HX := Lib.hid (HX.out.below hb)
  clear hb
  go_wp2_with fail
  with_reducible refine (CF.out _).mono ?_
  rintro e_ w2 ⟨rfl, hb⟩
  replace HB := Lib.hid (on_below HB.out hb)
  replace HL := Lib.hid (HL.out.below hb)
  replace HX := Lib.hid (HX.out.below hb)
  clear hb
  go_wp2_with fail
  go_ret
  exact ⟨rfl, HB.out⟩
set_option maxRecDepth 100000 in
set_option maxHeartbeats 4000000 in
theorem ord_1 (lA : Option Addr) (lC : Nat) (l : List Pl) (xA : Option Addr) (xC : Nat) (X : List Int) (b : Int) (h : l.length ≤ 40) (h2 : ¬ X.length ≤ 12) (w : World) (hl : PlS w lA l) (hx : InS w xA X) :
    Calls Try.prog 6 #[.slice lA l.length lC, .slice xA X.length xC, .int .u8 b] w fun e_ w' => e_ = .returned (.bool true) ∧ Below w.heap.size w w' := by
  have CF := Lib.hid (few12_is lA lC l true (by simp; omega))
  have z0 : decide ((12 : Int) < (X.length : Int)) = true := decide_eq_true (by omega)
  have HL := Lib.hid hl
  have HX := Lib.hid hx
  clear hl hx
  have HB := Lib.hid (Below.refl w.heap.size w)
  go_enter Try.func6, Try.ntmps6
  go_wp2_with fail
  with_reducible refine (head12_any _).mono ?_
  rintro e_ w1 ⟨rfl, hb⟩
  replace HB := Lib.hid (on_below HB.out hb)
  replace HL := Lib.hid (HL.out.below hb)
  replace HX := Lib.hid (HX.out.below hb)
  clear hb
  go_wp2_with fail
  with_reducible refine (CF.out _).mono ?_
  rintro e_ w2 ⟨rfl, hb⟩
  replace HB := Lib.hid (on_below HB.out hb)
  replace HL := Lib.hid (HL.out.below hb)
  replace HX := Lib.hid (HX.out.below hb)
  clear hb
  go_wp2_with fail
  go_ret
  exact ⟨rfl, HB.out⟩
set_option maxRecDepth 100000 in
set_option maxHeartbeats 4000000 in
theorem ord_2 (lA : Option Addr) (lC : Nat) (l : List Pl) (xA : Option Addr) (xC : Nat) (X : List Int) (b : Int) (b0 : 0 ≤ b) (b1 : b ≤ 255) (h : l.length ≤ 40) (h2 : X.length ≤ 12) (hfit : ∀ k, k < X.length → I64 (gdI X k))(hE : Sui plOk l X 0) (w : World) (hl : PlS w lA l) (hx : InS w xA X) :
    Calls Try.prog 6 #[.slice lA l.length lC, .slice xA X.length xC, .int .u8 b] w fun e_ w' => e_ = .returned (.bool true) ∧ Below w.heap.size w w' := by
  have CF := Lib.hid (few12_is lA lC l true (by simp; omega))
  have z0 : decide ((12 : Int) < (X.length : Int)) = false := decide_eq_false (by omega)
  have CX := Lib.hid (fun W (h1 : PlS W lA l) (h3 : InS W xA X) => parts_is lA lC l xA xC X (by omega) hfit 0 hE W h1 h3)
  have hfit2 := (oth_all (P := I64) X b.toNat).2 hfit
  have hE2 := oth_sui (b := b.toNat) hE
  have hln := oth_len X b.toNat
  have CY := Lib.hid (fun W (B : Option Addr) (D : Nat) (h1 : PlS W lA l) (h3 : InS W B (oth X b.toNat)) => parts_is lA lC l B D (oth X b.toNat) (by omega) hfit2 0 hE2 W h1 h3)
  rw [hln] at CY
  skip
  have hp1 := parts_len (selP l X)
  have hsl : (selP l X).length = X.length := by unfold selP; rw [List.length_map]; exact sel_len hE.zero.2.1.dst hE.zero.2.2.1 hE.zero.2.2.2
  have hp2 : ∀ i, i < (prt l X).length → (gdL (prt l X) i).length ≤ 9223372036854775807 := fun i hi => by have := part_len (S := selP l X) hi; show (gdL (parts (selP l X)) i).length ≤ _; omega
  have hp3 : (prt l X).length ≤ 9223372036854775807 := by unfold prt; omega
  have CS := Lib.hid (fun W (A B : Option Addr) (C D : Nat) (h1 : LLS W A (prt l X)) (h3 : LLS W B (prt l X)) => qsp_is A B C D (prt l X) (prt l X) hp3 hp3 hp2 hp2 true (by simp) W h1 h3)
  clear hp1 hsl hp2 hp3
  have HO := Lib.hid (oth_prt l X b.toNat)
  clear hfit hfit2 hE hE2 hln
  have HL := Lib.hid hl
  have HX := Lib.hid hx
  clear hl hx
  have HB := Lib.hid (Below.refl w.heap.size w)
  go_enter Try.func6, Try.ntmps6
  go_wp2_with fail
  with_reducible refine (head12_any _).mono ?_
  rintro e_ w1 ⟨rfl, hb⟩
  replace HB := Lib.hid (on_below HB.out hb)
  replace HL := Lib.hid (HL.out.below hb)
  replace HX := Lib.hid (HX.out.below hb)
  clear hb
  go_wp2_with fail
  with_reducible refine (CF.out _).mono ?_
  rintro e_ w2 ⟨rfl, hb⟩
  replace HB := Lib.hid (on_below HB.out hb)
  replace HL := Lib.hid (HL.out.below hb)
  replace HX := Lib.hid (HX.out.below hb)
  clear hb
  go_wp2_with fail
  obtain ⟨i0, hi0, hz0, hz1, hz2⟩ := info_of infoInt
  go_loopw [8, 26] (fun v i wr => ∃ (k : Nat) (Y : List Int), k ≤ X.length ∧ i = .int .i64 k ∧ Hid (Y = (oth X b.toNat).take k) ∧ Y.length = k ∧ Hid (wr.ownsRow w2.heap.size 3 1 v Y.length (Y.map (Value.int .i64))) ∧ Hid (Below w2.heap.size w2 wr)) (fun _ i _ => X.length - (intOf i).toNat)
  case atStart => exact ⟨0, [], Nat.zero_le _, rfl, rfl, rfl, World.ownsRow_nil _ _ _ _, Below.refl _ _⟩
  case round =>
    obtain ⟨k, Y, hk, rfl, HY, hyl, HOW, HW⟩ := hrel
    by_cases hlt : k < X.length
    rotate_left
    · have hke : k = X.length := Nat.le_antisymm hk (Nat.le_of_not_lt hlt)
      subst hke
      have hY : Y = oth X b.toNat := by rw [HY.out, List.take_of_length_le (by rw [oth_len]; exact Nat.le_refl _)]
      subst hY
      replace HB := Lib.hid (on_below HB.out HW.out)
      replace HL := Lib.hid (HL.out.below HW.out)
      replace HX := Lib.hid (HX.out.below HW.out)
      obtain ⟨yA, yC, rfl, hin, hyn, _, _, _⟩ := InS.own HOW.out
      clear HOW HY hlt hk
      have HI := Lib.hid hin
      rw [hyl]
      go_wp2_with fail
      with_reducible refine (CX.out _ HL.out HX.out).mono ?_
      rintro e_ w31 ⟨hp, hb⟩
      obtain ⟨p1A, p1C, rfl, hq, _, _⟩ : ∃ A C, e_ = .returned (.tuple #[.slice A (prt l X).length C, .int .i64 0]) ∧ LLS w31 A (prt l X) ∧ (prt l X).length ≤ C ∧ C ≤ maxLen := by
        rcases hp with ⟨h0, _⟩ | ⟨_, h⟩
        · exact absurd rfl h0
        · exact h
      have HP1 := Lib.hid hq
      clear hq hp
      replace HB := Lib.hid (on_below HB.out hb)
      replace HL := Lib.hid (HL.out.below hb)
      replace HX := Lib.hid (HX.out.below hb)
      replace HI := Lib.hid (HI.out.below hb)
      clear hb
      go_wp2_with fail
      with_reducible refine (CY.out _ _ _ HL.out HI.out).mono ?_
      rintro e_ w32 ⟨hp, hb⟩
      obtain ⟨p2A, p2C, rfl, hq, _, _⟩ : ∃ A C, e_ = .returned (.tuple #[.slice A (prt l X).length C, .int .i64 0]) ∧ LLS w32 A (prt l X) ∧ (prt l X).length ≤ C ∧ C ≤ maxLen := by
        rcases hp with ⟨h0, _⟩ | ⟨_, h⟩
        · exact absurd rfl h0
        · rw [HO.out] at h; exact h
      have HP2 := Lib.hid hq
      clear hq hp
      replace HB := Lib.hid (on_below HB.out hb)
      replace HL := Lib.hid (HL.out.below hb)
      replace HX := Lib.hid (HX.out.below hb)
      replace HI := Lib.hid (HI.out.below hb)
      replace HP1 := Lib.hid (HP1.out.below hb)
      clear hb
      go_wp2_with fail
      with_reducible refine (CS.out _ _ _ _ _ HP1.out HP2.out).mono ?_
      rintro e_ w33 ⟨rfl, hb⟩
      replace HB := Lib.hid (on_below HB.out hb)
      replace HL := Lib.hid (HL.out.below hb)
      replace HX := Lib.hid (HX.out.below hb)
      replace HI := Lib.hid (HI.out.below hb)
      replace HP1 := Lib.hid (HP1.out.below hb)
      replace HP2 := Lib.hid (HP2.out.below hb)
      clear hb
      go_wp2_with fail
      go_ret
      exact ⟨rfl, HB.out⟩
    have gk : k ≤ 100000 := by omega
    have HST := Lib.hid (oth_take hlt HY.out)
    have htm := sg_tmod (b := b) hlt b0
    have hsl := sg_lt (b := b.toNat) hlt
    generalize sg X.length b.toNat k = m at HST htm hsl
    have n0 : ¬ (X.length : Int) = 0 := by omega
    have n1 : ((X.length : Int) == 0) = false := by rw [beq_eq_false_iff_ne]; exact n0
    have hm1 : Y.length + 1 ≤ maxLen := by unfold maxLen; omega
    have hm2 : (Y.length + 1) * 8 ≤ 140737488355328 := by omega
    have hml : (m : Int) < (X.length : Int) := by omega
    have hm0 : (0 : Int) ≤ (m : Int) := by omega
    obtain ⟨c1, hc1⟩ : ∃ c, (X.length : Int) - 1 = c := ⟨_, rfl⟩
    obtain ⟨c2, hc2⟩ : ∃ c, c1 - (k : Int) = c := ⟨_, rfl⟩
    obtain ⟨c3, hc3⟩ : ∃ c, c2 + b = c := ⟨_, rfl⟩
    rw [hc1, hc2, hc3] at htm
    have gc1 : -9223372036854775808 ≤ c1 ∧ c1 ≤ 9223372036854775807 := by omega
    have gc2 : -9223372036854775808 ≤ c2 ∧ c2 ≤ 9223372036854775807 := by omega
    have gc3 : -9223372036854775808 ≤ c3 ∧ c3 ≤ 9223372036854775807 := by omega
    have gb : -9223372036854775808 ≤ b ∧ b ≤ 9223372036854775807 := by omega
    have gm : -9223372036854775808 ≤ (m : Int) ∧ (m : Int) ≤ 9223372036854775807 := by omega
    have s0 : w = w → IntKind.i64.wrap ((X.length : Int) - 1) = c1 := fun _ => by rw [hc1]; exact IntWalk.i64_in _ gc1
    have t0 : w = w → wrap64 ((X.length : Int) - 1) = c1 := fun _ => by rw [hc1]; exact IntWalk.wrap64_in _ gc1
    have s1 : w = w → IntKind.i64.wrap (c1 - (k : Int)) = c2 := fun _ => by rw [hc2]; exact IntWalk.i64_in _ gc2
    have t1 : w = w → wrap64 (c1 - (k : Int)) = c2 := fun _ => by rw [hc2]; exact IntWalk.wrap64_in _ gc2
    have s2 : w = w → IntKind.i64.wrap (c2 + b) = c3 := fun _ => by rw [hc3]; exact IntWalk.i64_in _ gc3
    have t2 : w = w → wrap64 (c2 + b) = c3 := fun _ => by rw [hc3]; exact IntWalk.wrap64_in _ gc3
    have s3 : w = w → IntKind.i64.wrap (b) = b := fun _ => IntWalk.i64_in _ gb
    have t3 : w = w → wrap64 (b) = b := fun _ => IntWalk.wrap64_in _ gb
    have s4 : w = w → IntKind.i64.wrap ((m : Int)) = (m : Int) := fun _ => IntWalk.i64_in _ gm
    have t4 : w = w → wrap64 ((m : Int)) = (m : Int) := fun _ => IntWalk.wrap64_in _ gm
    have HW1 := Lib.hid (wr_up (k := k) gk)
    have HW2 := Lib.hid (wr_up' (k := k) gk)
    clear gk gc1 gc2 gc3 gb gm
    clear hc1 hc2 hc3
    obtain ⟨c0, o0, rfl, e0⟩ := HX.out.below HW.out m hsl
    generalize gdI X m = x at *
    go_wp2_with (at_builtin; refine wpList_append_own _ rfl (.tmp 29) (.tmp 44) 34 rfl w2.heap.size 3 i0 (.int .i64 0) 1 8 Try.underlying34 hi0 hz0 hz1 hz2 rfl (by decide) _ _ _ rfl (HOW.out.alloc _) ⟨wr.heap.size, 0, none⟩ 1 1 [.int .i64 x] rfl rfl (new_k _ _ _) one_k hm1 hm2 (Nat.le_trans HW.out.size (below_new _ _).size) ?_; intro v1 u1 own1_ gr1 nn1; clear nn1; have HB1 := Lib.hid (app_bel' HW.out HOW.out gr1); have HOW1 := Lib.hid (snoc_own own1_ rfl rfl); clear gr1 own1_)
    go_roundw
    case rel => exact ⟨k + 1, Y ++ [x], hlt, int_of (by first | rfl | exact HW1.out | exact HW2.out), HST.out, (by rw [List.length_append, hyl]; rfl), HOW1.out, HB1.out⟩
    case measure => simp [intOf, HW1.out, HW2.out]; clear s0 s1 s2 s3 s4 t0 t1 t2 t3 t4; omega
set_option maxRecDepth 100000 in
set_option maxHeartbeats 4000000 in
theorem ord_3 (lA : Option Addr) (lC : Nat) (l : List Pl) (xA : Option Addr) (xC : Nat) (X : List Int) (b : Int) (b0 : 0 ≤ b) (b1 : b ≤ 255) (h : l.length ≤ 40) (h2 : X.length ≤ 12) (hfit : ∀ k, k < X.length → I64 (gdI X k)) (E : Int) (hE : Sui plOk l X E) (hn : E ≠ 0) (w : World) (hl : PlS w lA l) (hx : InS w xA X) :
    Calls Try.prog 6 #[.slice lA l.length lC, .slice xA X.length xC, .int .u8 b] w fun e_ w' => e_ = .returned (.bool true) ∧ Below w.heap.size w w' := by
  have CF := Lib.hid (few12_is lA lC l true (by simp; omega))
  have z0 : decide ((12 : Int) < (X.length : Int)) = false := decide_eq_false (by omega)
  have CX := Lib.hid (fun W (h1 : PlS W lA l) (h3 : InS W xA X) => parts_is lA lC l xA xC X (by omega) hfit E hE W h1 h3)
  have hfit2 := (oth_all (P := I64) X b.toNat).2 hfit
  have hE2 := oth_sui (b := b.toNat) hE
  have hln := oth_len X b.toNat
  have CY := Lib.hid (fun W (B : Option Addr) (D : Nat) (h1 : PlS W lA l) (h3 : InS W B (oth X b.toNat)) => parts_is lA lC l B D (oth X b.toNat) (by omega) hfit2 E hE2 W h1 h3)
  rw [hln] at CY
  skip
  have z1 : (E == E) = true := by simp
  have CS := Lib.hid (fun W => qsp_is none none 0 0 [] [] (by decide) (by decide) (fun i hi => absurd hi (Nat.not_lt_zero i)) (fun i hi => absurd hi (Nat.not_lt_zero i)) true (by simp) W (LLS.nil _ _) (LLS.nil _ _))
  rw [show ([] : List (List Int)).length = 0 from rfl] at CS
  have HN := Lib.hid hn
  clear hn
  have HO := Lib.hid (oth_prt l X b.toNat)
  clear hfit hfit2 hE hE2 hln
  have HL := Lib.hid hl
  have HX := Lib.hid hx
  clear hl hx
  have HB := Lib.hid (Below.refl w.heap.size w)
  go_enter Try.func6, Try.ntmps6
  go_wp2_with fail
  with_reducible refine (head12_any _).mono ?_
  rintro e_ w1 ⟨rfl, hb⟩
  replace HB := Lib.hid (on_below HB.out hb)
  replace HL := Lib.hid (HL.out.below hb)
  replace HX := Lib.hid (HX.out.below hb)
  clear hb
  go_wp2_with fail
  with_reducible refine (CF.out _).mono ?_
  rintro e_ w2 ⟨rfl, hb⟩
  replace HB := Lib.hid (on_below HB.out hb)
  replace HL := Lib.hid (HL.out.below hb)
  replace HX := Lib.hid (HX.out.below hb)
  clear hb
  go_wp2_with fail
  obtain ⟨i0, hi0, hz0, hz1, hz2⟩ := info_of infoInt
  go_loopw [8, 26] (fun v i wr => ∃ (k : Nat) (Y : List Int), k ≤ X.length ∧ i = .int .i64 k ∧ Hid (Y = (oth X b.toNat).take k) ∧ Y.length = k ∧ Hid (wr.ownsRow w2.heap.size 3 1 v Y.length (Y.map (Value.int .i64))) ∧ Hid (Below w2.heap.size w2 wr)) (fun _ i _ => X.length - (intOf i).toNat)
  case atStart => exact ⟨0, [], Nat.zero_le _, rfl, rfl, rfl, World.ownsRow_nil _ _ _ _, Below.refl _ _⟩
  case round =>
    obtain ⟨k, Y, hk, rfl, HY, hyl, HOW, HW⟩ := hrel
    by_cases hlt : k < X.length
    rotate_left
    · have hke : k = X.length := Nat.le_antisymm hk (Nat.le_of_not_lt hlt)
      subst hke
      have hY : Y = oth X b.toNat := by rw [HY.out, List.take_of_length_le (by rw [oth_len]; exact Nat.le_refl _)]
      subst hY
      replace HB := Lib.hid (on_below HB.out HW.out)
      replace HL := Lib.hid (HL.out.below HW.out)
      replace HX := Lib.hid (HX.out.below HW.out)
      obtain ⟨yA, yC, rfl, hin, hyn, _, _, _⟩ := InS.own HOW.out
      clear HOW HY hlt hk
      have HI := Lib.hid hin
      rw [hyl]
      go_wp2_with fail
      with_reducible refine (CX.out _ HL.out HX.out).mono ?_
      rintro e_ w31 ⟨hp, hb⟩
      obtain rfl : e_ = .returned (.tuple #[.slice none 0 0, .int .i64 E]) := by
        rcases hp with ⟨_, h⟩ | ⟨h0, _⟩
        · exact h
        · exact absurd h0 HN.out
      clear hp
      replace HB := Lib.hid (on_below HB.out hb)
      replace HL := Lib.hid (HL.out.below hb)
      replace HX := Lib.hid (HX.out.below hb)
      replace HI := Lib.hid (HI.out.below hb)
      clear hb
      go_wp2_with fail
      with_reducible refine (CY.out _ _ _ HL.out HI.out).mono ?_
      rintro e_ w32 ⟨hp, hb⟩
      obtain rfl : e_ = .returned (.tuple #[.slice none 0 0, .int .i64 E]) := by
        rcases hp with ⟨_, h⟩ | ⟨h0, _⟩
        · exact h
        · exact absurd h0 HN.out
      clear hp
      replace HB := Lib.hid (on_below HB.out hb)
      replace HL := Lib.hid (HL.out.below hb)
      replace HX := Lib.hid (HX.out.below hb)
      replace HI := Lib.hid (HI.out.below hb)
      clear hb
      go_wp2_with fail
      with_reducible refine (CS.out _).mono ?_
      rintro e_ w33 ⟨rfl, hb⟩
      replace HB := Lib.hid (on_below HB.out hb)
      replace HL := Lib.hid (HL.out.below hb)
      replace HX := Lib.hid (HX.out.below hb)
      replace HI := Lib.hid (HI.out.below hb)
      clear hb
      go_wp2_with fail
      go_ret
      exact ⟨rfl, HB.out⟩
    have gk : k ≤ 100000 := by omega
    have HST := Lib.hid (oth_take hlt HY.out)
    have htm := sg_tmod (b := b) hlt b0
    have hsl := sg_lt (b := b.toNat) hlt
    generalize sg X.length b.toNat k = m at HST htm hsl
    have n0 : ¬ (X.length : Int) = 0 := by omega
    have n1 : ((X.length : Int) == 0) = false := by rw [beq_eq_false_iff_ne]; exact n0
    have hm1 : Y.length + 1 ≤ maxLen := by unfold maxLen; omega
    have hm2 : (Y.length + 1) * 8 ≤ 140737488355328 := by omega
    have hml : (m : Int) < (X.length : Int) := by omega
    have hm0 : (0 : Int) ≤ (m : Int) := by omega
    obtain ⟨c1, hc1⟩ : ∃ c, (X.length : Int) - 1 = c := ⟨_, rfl⟩
    obtain ⟨c2, hc2⟩ : ∃ c, c1 - (k : Int) = c := ⟨_, rfl⟩
    obtain ⟨c3, hc3⟩ : ∃ c, c2 + b = c := ⟨_, rfl⟩
    rw [hc1, hc2, hc3] at htm
    have gc1 : -9223372036854775808 ≤ c1 ∧ c1 ≤ 9223372036854775807 := by omega
    have gc2 : -9223372036854775808 ≤ c2 ∧ c2 ≤ 9223372036854775807 := by omega
    have gc3 : -9223372036854775808 ≤ c3 ∧ c3 ≤ 9223372036854775807 := by omega
    have gb : -9223372036854775808 ≤ b ∧ b ≤ 9223372036854775807 := by omega
    have gm : -9223372036854775808 ≤ (m : Int) ∧ (m : Int) ≤ 9223372036854775807 := by omega
    have s0 : w = w → IntKind.i64.wrap ((X.length : Int) - 1) = c1 := fun _ => by rw [hc1]; exact IntWalk.i64_in _ gc1
    have t0 : w = w → wrap64 ((X.length : Int) - 1) = c1 := fun _ => by rw [hc1]; exact IntWalk.wrap64_in _ gc1
    have s1 : w = w → IntKind.i64.wrap (c1 - (k : Int)) = c2 := fun _ => by rw [hc2]; exact IntWalk.i64_in _ gc2
    have t1 : w = w → wrap64 (c1 - (k : Int)) = c2 := fun _ => by rw [hc2]; exact IntWalk.wrap64_in _ gc2
    have s2 : w = w → IntKind.i64.wrap (c2 + b) = c3 := fun _ => by rw [hc3]; exact IntWalk.i64_in _ gc3
    have t2 : w = w → wrap64 (c2 + b) = c3 := fun _ => by rw [hc3]; exact IntWalk.wrap64_in _ gc3
    have s3 : w = w → IntKind.i64.wrap (b) = b := fun _ => IntWalk.i64_in _ gb
    have t3 : w = w → wrap64 (b) = b := fun _ => IntWalk.wrap64_in _ gb
    have s4 : w = w → IntKind.i64.wrap ((m : Int)) = (m : Int) := fun _ => IntWalk.i64_in _ gm
    have t4 : w = w → wrap64 ((m : Int)) = (m : Int) := fun _ => IntWalk.wrap64_in _ gm
    have HW1 := Lib.hid (wr_up (k := k) gk)
    have HW2 := Lib.hid (wr_up' (k := k) gk)
    clear gk gc1 gc2 gc3 gb gm
    clear hc1 hc2 hc3
    obtain ⟨c0, o0, rfl, e0⟩ := HX.out.below HW.out m hsl
    generalize gdI X m = x at *
    go_wp2_with (at_builtin; refine wpList_append_own _ rfl (.tmp 29) (.tmp 44) 34 rfl w2.heap.size 3 i0 (.int .i64 0) 1 8 Try.underlying34 hi0 hz0 hz1 hz2 rfl (by decide) _ _ _ rfl (HOW.out.alloc _) ⟨wr.heap.size, 0, none⟩ 1 1 [.int .i64 x] rfl rfl (new_k _ _ _) one_k hm1 hm2 (Nat.le_trans HW.out.size (below_new _ _).size) ?_; intro v1 u1 own1_ gr1 nn1; clear nn1; have HB1 := Lib.hid (app_bel' HW.out HOW.out gr1); have HOW1 := Lib.hid (snoc_own own1_ rfl rfl); clear gr1 own1_)
    go_roundw
    case rel => exact ⟨k + 1, Y ++ [x], hlt, int_of (by first | rfl | exact HW1.out | exact HW2.out), HST.out, (by rw [List.length_append, hyl]; rfl), HOW1.out, HB1.out⟩
    case measure => simp [intOf, HW1.out, HW2.out]; clear s0 s1 s2 s3 s4 t0 t1 t2 t3 t4; omega
theorem law_any (lA : Option Addr) (lC : Nat) (l : List Pl) (xA : Option Addr) (xC : Nat) (X : List Int) (b : Int) (ub : 0 ≤ b ∧ b ≤ 255) (w : World) (hl : LP w lA lC l) (hx : LI w xA xC X) :
    Calls Try.prog 6 #[.slice lA l.length lC, .slice xA X.length xC, .int .u8 b] w fun e_ w' => e_ = .returned (.bool true) ∧ Below w.heap.size w w' := by
  by_cases h : l.length ≤ 40
  · by_cases h2 : X.length ≤ 12
    · obtain ⟨E, hE⟩ := Sui.ex plOk l X
      by_cases h0 : E = 0
      · subst h0
        exact ord_2 lA lC l xA xC X b ub.1 ub.2 h h2 hx.fit hE w hl.sl hx.sl
      · exact ord_3 lA lC l xA xC X b ub.1 ub.2 h h2 hx.fit E hE h0 w hl.sl hx.sl
    · exact ord_1 lA lC l xA xC X b h h2 w hl.sl hx.sl
  · exact ord_0 lA lC l xA xC X b h w hl.sl hx.sl
/-! ### The row -/
open Go.ChangeShapes Go.WideShapes Go.ChangeAt Go.Joins
theorem u8_in {x : Int} (h : (Lit.int .u8 x).wf = true) : 0 ≤ x ∧ x ≤ 255 := by
  have e1 : IntKind.u8.min = 0 := rfl
  have e2 : IntKind.u8.max = 255 := rfl
  simp [Lit.wf, e1, e2] at h
  exact h
theorem own : ownKnob Try.prog.godebug = none := by kernel_rfl
noncomputable def laidWorld (os : Os) : World := World.holding Try.prog os ⟨#[], #[], []⟩
theorem laidWorld_met (os : Os) (args : Array Value) : laidMet Try.prog [] ((laidWorld os).forCall (fun _ _ => 0) ⟨#[], args, []⟩).memory :=
  laidMet_of_run' 8 (by kernel_rfl) (by kernel_rfl)

set_option maxRecDepth 100000 in
theorem contract (H : Type) (enc : TypeId × Value → H) (W : World) (base : Nat) (args : Array Value) (ds gs : List (DataW H)) (before : List MemPlace)
    (hval : ∀ (j : Nat) t v, Try.f6.params[j]? = some t → args[j]? = some v → Value.okWide Try.prog W .any base t v)
    (hW : DataW.Whole enc Try.prog Try.f6.params.toList Rows.tiersOrderSpec.vars false W args.toList ds gs before) :
    Calls Try.prog 6 args W fun e W' => ∃ v, e = .returned v ∧ Rows.tiersOrderSpec.post enc Try.prog Try.f6 false true false false W args v W' := by
  have hW' := hW
  have hold : ∀ q ∈ before, decide (q.block < W.heap.size) = true := fun q hq => by simpa using hW.lt q hq
  obtain ⟨p, q, hA0, hV, rfl, hfz, hnd⟩ := hW
  have hA : DataW.TrodAll enc Try.prog W 0 (fun _ => true) true Try.f6.params.toList args.toList ds p := hA0
  rw [Try.params6] at hA hval
  obtain ⟨v0, vs0, d0, ds0, p0, q0, hargs, rfl, rfl, h0, r0⟩ := trodAll_cons hA
  obtain ⟨v1, vs1, d1, ds1, p1, q1, rfl, rfl, rfl, h1, r1⟩ := trodAll_cons r0
  obtain ⟨v2, vs2, d2, ds2, p2, q2, rfl, rfl, rfl, h2, r2⟩ := trodAll_cons r1
  obtain ⟨rfl, rfl, rfl⟩ := trodAll_nil r2
  obtain rfl : args = #[v0, v1, v2] := Array.toList_inj.1 hargs
  obtain ⟨rfl, rfl⟩ := trodVars_none hV
  obtain ⟨lA, lC, l, rfl, ll, shutl⟩ := open_plan (hval 0 22 v0 rfl rfl) h0
  obtain ⟨xA, xC, x, rfl, lx, shutx⟩ := open_nums (hval 1 34 v1 rfl rfl) h1
  obtain ⟨bb, rfl, rfl, rfl, wubb⟩ := open_int Try.underlying5 (hval 2 5 v2 rfl rfl) h2
  clear hA0
  refine (law_any lA lC l xA xC x bb (u8_in wubb) W ll lx).mono fun e W' ⟨he, bel⟩ => ?_
  subst he
  exact ⟨_, rfl, _, _, _, [], _, [], hW', trodAll_mk1 (shut_bool Try.underlying4 _), (trodAll_cons_mk (shutl W' (fun b => decide (b < W.heap.size)) bel (fun q hq => hold q (by simp [hq]))) (trodAll_cons_mk (shutx W' (fun b => decide (b < W.heap.size)) bel (fun q hq => hold q (by simp [hq]))) (trodAll_cons_mk (shut_int Try.underlying5 wubb) trodAll_mk0))), rfl, bel.frame _, fun h => by cases h⟩

theorem reads (os : Os) {H : Type} (enc : TypeId × Value → H) : ∃ places, DataW.whole enc Try.prog ((laidWorld os).forCall (fun _ _ => 0) ⟨#[], #[.slice none 0 0, .slice none 0 0, .int .u8 0], []⟩).memory Try.f6.params.toList Rows.tiersOrderSpec.vars false (#[.slice none 0 0, .slice none 0 0, .int .u8 0] : Array Value).toList 8 = some ([.nil, .nil, .lit (.int .u8 0)], [], places) :=
  ⟨[], by kernel_rfl⟩

set_option maxRecDepth 100000 in
theorem lifted (os : Os) (started : os.Started) (H : Type) (enc : TypeId × Value → H) (F : Stop.Interp) :
    ReturnsInHanded {} Try.checked os 6 .any ((OpenSpec.ofChange Rows.tiersOrderSpec).preRow enc Try.prog Try.f6 Rows.tiersOrderRow.domain false Rows.tiersOrderRow.laid) (((OpenSpec.ofChange Rows.tiersOrderSpec).at F).post enc Try.prog Try.f6 false true false false) := by
  obtain ⟨places, hx⟩ := reads os enc
  refine returnsInHanded_of_row (C := Try.checked) (s := OpenSpec.ofChange Rows.tiersOrderSpec) own started (by kernel_rfl) Try.func6
    (witness_row_atRef (enc := enc) (C := Try.checked) false (laidWorld os) #[.slice none 0 0, .slice none 0 0, .int .u8 0] rfl (by kernel_rfl) (by kernel_rfl) (by kernel_rfl)
      (OpenSpec.preRow_of_cond 8 hx (by kernel_rfl) (fun k hk => by cases hk) (by kernel_rfl) (laidWorld_met os _))) ?_
  intro W base args ds gs before hval hW _ hcond _ hL hsh _
  exact contract H enc W base args ds gs before hval hW

/-- The statement. -/
theorem said : Rows.TiersOrderSaid :=
  OpenClaim.holds_of_cond 6 Try.f6 rfl rfl rfl rfl rfl rfl rfl ⟨rfl, rfl, rfl, rfl, rfl⟩ rfl rfl rfl rfl rfl (by kernel_rfl) Try.func6 (by kernel_rfl)
    (of_decide_eq_true (by kernel_rfl)) (by unfold Func.isWrapper; first | (rw [if_pos (by decide +kernel)]; kernel_rfl) | (rw [if_neg (by decide +kernel)]; exact ⟨rfl, rfl⟩))
    (fun os started H enc _ F => by rw [OpenClaim.pre_eq_preRow]; exact lifted os started H enc F)
end Go.Proofs.Ytgikpcoaennkgaa.LawOrder
