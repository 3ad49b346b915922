/-
  Package tiers: indicesOf, isAnyTwice, suiting. Package tiers: the iterator of the parts. Package tiers: the sorting, Parts.
-/
import Derived.Test.YtgikpcoaennkgaaZTrsZB
import Derived.Test.YtgikpcoaennkgaaZShpPK
import Derived.Test.YtgikpcoaennkgaaZShpPH
import Derived.Deep.OwnRows
import Derived.Test.YtgikpcoaennkgaaZShpPS
import Derived.Test.YtgikpcoaennkgaaZShpPC
import Derived.Test.YtgikpcoaennkgaaZShpPD
import Derived.OwnWalkIn
import Derived.Test.YtgikpcoaennkgaaShelf
import Derived.Test.YtgikpcoaennkgaaZSgtZB
namespace Go.Proofs.Ytgikpcoaennkgaa
open Go.RowKit Go.Sort
open Go.RowKit (Below)
open Go.Maps (Keyed)
set_option linter.unusedVariables false
set_option linter.unusedSimpArgs false
attribute [local go_sem] Oper.semAt_some

theorem infoInt : (Try.prog.info? 3).map (fun i => (i.zero, i.size, i.bytes)) = some (some (.int .i64 0), 1, 8) := by kernel_rfl
theorem zeroBool (w : World) : (zeroValue 4).run Try.prog w = .ok (.bool false) w := by kernel_rfl
theorem mk_ints (n : Nat) (hn : n ≤ 1000) (w : World) : (Instr.makeSlice 34 (.int .i64 (n : Int)) (.int .i64 (n : Int))).run Try.prog w = .ok (.slice (some ⟨w.heap.size, 0, none⟩) n n) (w.alloc (.cells (madeCells #[.int .i64 0] n) 3)) :=
  run_make_row' 34 3 (.int .i64 0) 8 Try.underlying34 infoInt rfl .i64 .i64 n (by omega) (by omega) w
/-- A row of n numbers, of which the first k are those that f tells. -/
def Ri (g n k : Nat) (f : Nat → Int) (W : World) : Prop := ∃ cs : Array Value, W.heap[g]? = some (.cells cs 3 (0, 0)) ∧ cs.size = n ∧ ∀ j, j < k → cs[j]? = some (.int .i64 (f j))
section
variable {g n k : Nat} {f : Nat → Int} {W W' : World}
theorem Ri.on (h : Ri g n k f W) (hb : Below W.heap.size W W') : Ri g n k f W' := by obtain ⟨cs, h1, h2⟩ := h; exact ⟨cs, blk_on h1 hb, h2⟩
theorem Ri.lt (h : Ri g n k f W) : g < W.heap.size := by obtain ⟨cs, h1, h2⟩ := h; exact (Array.getElem?_eq_some_iff.1 h1).1
theorem Ri.get (h : Ri g n k f W) {j : Nat} (hj : j < n) : (∃ u, W.cell? ⟨g, j, none⟩ = some u) ∧ W.frozen? ⟨g, j, none⟩ = false := by
  obtain ⟨cs, h1, h2, _⟩ := h
  refine ⟨⟨cs[j]'(by omega), ?_⟩, ?_⟩
  · simp [World.cell?, h1]
  · simp [World.frozen?, h1]
theorem Ri.at (h : Ri g n k f W) {j : Nat} (hj : j < k) : W.cell? ⟨g, j, none⟩ = some (.int .i64 (f j)) := by
  obtain ⟨cs, h1, h2, h3⟩ := h
  simpa [World.cell?, h1] using h3 j hj
theorem Ri.put (h : Ri g n k f W) (hk : k < n) {x : Int} (hx : f k = x) : Ri g n (k + 1) f (W.setCell ⟨g, k, none⟩ (.int .i64 x)) := by
  obtain ⟨cs, h1, h2, h3⟩ := h
  refine ⟨cs.setIfInBounds k (.int .i64 x), set_cells h1 k _, by simp [h2], fun j hj => ?_⟩
  rw [Array.getElem?_setIfInBounds]
  by_cases e : k = j
  · subst e; rw [if_pos rfl, if_pos (by omega), hx]
  · rw [if_neg e]; exact h3 j (by omega)
theorem Ri.ins (h : Ri g n n f W) {X : List Int} (hl : X.length = n) (he : ∀ j, j < n → f j = gdI X j) : InS W (some ⟨g, 0, none⟩) X := fun k hk => ⟨g, 0, rfl, by rw [Nat.zero_add, ← he k (by omega)]; exact h.at (by omega)⟩
theorem Ri.full (h : Ri g n n f W) {X : List Int} (hl : X.length = n) (he : ∀ j, j < n → f j = gdI X j) : Ri g X.length X.length (gdI X) W := by
  subst hl
  obtain ⟨cs, h1, h2, h3⟩ := h
  exact ⟨cs, h1, h2, fun j hj => by rw [← he j hj]; exact h3 j hj⟩
end
section
variable {P : Program} (w : World) {ops : Array Oper} {rest : List Oper} {o : Oper} {a : Act} {Q : Exit → Act → World → Prop}
/-- 'v, ok := m[k]', what comes of it known ahead. -/
theorem lookup_ok_at (hg : o.guard = none) (m x : Operand) (t : TypeId) (hop : o.op = Op.lookup t m x true)
    (k e : TypeId) (K : Keyed P k) (ht : P.underlying t = some (.map k e)) (he : P.underlying e = some (.int .i64)) (hz : (zeroValue e).run P w = .ok (.int .i64 0) w) (b n : Nat) (D : DataW Unit)
    (hm : a.eval m = .map (some b)) (hown : w.ownsMap P k (plainElem (H := Unit) P e) b n D) (key : Value) (kl : Lit) (hx : a.eval x = key) (hkey : keyOf P k key = some kl)
    (c : Int) (r : Bool) (hr : Maps.has D kl = r) (hc : D.atKey kl (.lit (.int .i64 0)) = .lit (.int .i64 c))
    (hK : wpList P ops Q rest (a.put o.dst (.tuple #[.int .i64 c, .bool r])) w) :
    wpList P ops Q (o :: rest) a w :=
  wpList_lookup_own_ok_int w hg m x t hop k e .i64 K ht he hz b n D hm hown key kl hx hkey (fun c' hc' _ => by
    rw [hc] at hc'
    injection hc' with h1
    injection h1 with _ h1
    subst h1
    subst hr
    exact hK)
/-- 'm[k]' at elements that are bools. -/
theorem lookup_bool_at (hg : o.guard = none) (m x : Operand) (t : TypeId) (hop : o.op = Op.lookup t m x false)
    (k e : TypeId) (K : Keyed P k) (ht : P.underlying t = some (.map k e)) (he : P.underlying e = some .bool) (hz : (zeroValue e).run P w = .ok (.bool false) w) (b n : Nat) (D : DataW Unit)
    (hm : a.eval m = .map (some b)) (hown : w.ownsMap P k (plainElem (H := Unit) P e) b n D) (key : Value) (kl : Lit) (hx : a.eval x = key) (hkey : keyOf P k key = some kl)
    (r : Bool) (hc : D.atKey kl (.lit (.bool false)) = .lit (.bool r))
    (hK : wpList P ops Q rest (a.put o.dst (.bool r)) w) :
    wpList P ops Q (o :: rest) a w := by
  refine wpList_plain hg fun K' hK' => ?_
  obtain ⟨v, ps, hrun, hv⟩ := hown.lookup K ht hz (plainElem_bool he false) hkey
  rw [hc] at hv
  have hv' : v = .bool r := by
    unfold plainElem at hv
    rw [he] at hv
    cases v <;> simp at hv
    rw [hv.1]
  subst hv'
  unfold Oper.wp
  simp [execOp, hop, hm, hx, hrun, Result.andThen]
  exact hK' _ _ hK
end
/-- What indicesOf and suiting answer, E the error. -/
def InR (w w' : World) (L : List Pl) (X : List Int) (E : Int) (e : Ending) : Prop :=
  (E ≠ 0 ∧ e = .returned (.tuple #[.slice none 0 0, .int .i64 E])) ∨
  (E = 0 ∧ ∃ g, e = .returned (.tuple #[.slice (some ⟨g, 0, none⟩) X.length X.length, .int .i64 0]) ∧ w.heap.size ≤ g ∧ Ri g X.length X.length (gdI (ixs L X)) w')
set_option maxRecDepth 100000 in
set_option maxHeartbeats 4000000 in
theorem ids_is (A : Option Addr) (C : Nat) (L : List Pl) (B : Option Addr) (D : Nat) (X : List Int) (h1000 : X.length ≤ 1000) (hI : ∀ k, k < X.length → I64 (gdI X k)) (E : Int) (hE : Idx plOk L X E) (w : World) (hl : PlS w A L) (hx : InS w B X) :
    Calls Try.prog 26 #[.slice A L.length C, .slice B X.length D] w fun e_ w' => InR w w' L X E e_ ∧ Below w.heap.size w w' := by
  have CI := Lib.hid (fun W (h : PlS W A L) => indexed_is A C L W h)
  have HL := Lib.hid hl
  clear hl
  have HX := Lib.hid hx
  clear hx
  have HE := Lib.hid hE
  clear hE
  have HI := Lib.hid hI
  clear hI
  have hmk := fun W => mk_ints X.length h1000 W
  go_enter Try.func26, Try.ntmps26
  go_wp2_with fail
  with_reducible refine (CI.out _ HL.out).mono ?_
  rintro e_ w1 ⟨hi, hb⟩
  have HB := Lib.hid hb
  replace HX := Lib.hid (HX.out.below hb)
  clear hb CI HL
  rcases hi with ⟨mb, rfl, hn⟩ | ⟨b, rfl, hok, hbb, hom⟩
  · go_wp2_with fail
    go_ret2
    rcases HE.out with ⟨_, rfl⟩ | ⟨h, _⟩ | ⟨h, _⟩
    · exact ⟨.inl ⟨by decide, rfl⟩, HB.out⟩
    · exact absurd h hn
    · exact absurd h hn
  have HOK := Lib.hid hok
  have hlen := hok.few
  clear hok
  have hbl := hom.lt
  have HOM := Lib.hid hom
  clear hom
  go_wp2_with fail
  have HR0 := Lib.hid (show Ri w1.heap.size X.length 0 (gdI (ixs L X)) (w1.alloc (.cells (madeCells #[.int .i64 0] X.length) 3)) from ⟨_, World.alloc_heap_new _ _, by rw [size_madeCells], fun j hj => absurd hj (Nat.not_lt_zero j)⟩)
  have hb3 := below_new w1 (.cells (madeCells #[.int .i64 0] X.length) 3)
  clear hmk
  generalize w1.alloc (.cells (madeCells #[.int .i64 0] X.length) 3) = w3 at *
  go_loopw [23] (fun i wr => ∃ k : Nat, k ≤ X.length ∧ i = .int .i64 k ∧ Hid (∀ j, j < k → ixP L (gdI X j) < L.length) ∧ Hid (Ri w1.heap.size X.length k (gdI (ixs L X)) wr ∧ Below w1.heap.size w1 wr)) (fun i _ => X.length - (intOf i).toNat)
  case atStart => exact ⟨0, Nat.zero_le _, rfl, fun j hj => absurd hj (Nat.not_lt_zero j), HR0.out, hb3⟩
  case round =>
    obtain ⟨k, hk, rfl, HK, HW⟩ := hrel
    clear HR0 hb3
    by_cases hlt : k < X.length
    rotate_left
    · obtain rfl : k = X.length := by omega
      go_wp2_with fail
      go_ret2
      rcases HE.out with ⟨h, _⟩ | ⟨_, h, _⟩ | ⟨_, _, rfl⟩
      · exact absurd HOK.out h
      · exact absurd HK.out h
      · exact ⟨.inr ⟨rfl, w1.heap.size, rfl, HB.out.size, HW.out.1⟩, on_below HB.out HW.out.2⟩
    have w1_ := wr_up (k := k) (by omega)
    have w2_ := wr_up' (k := k) (by omega)
    obtain ⟨bx, ox, rfl, x0⟩ := HX.out.below HW.out.2 k hlt
    have HXK := Lib.hid (HI.out k hlt)
    have HU := Lib.hid (show ∃ x, gdI X k = x from ⟨_, rfl⟩)
    obtain ⟨x, hu⟩ := HU.out
    clear HU
    rw [hu] at x0 HXK
    have HU := Lib.hid hu
    clear hu
    have hkey := keyI HXK.out
    have how := om_below HOM.out HW.out.2
    obtain ⟨⟨u, g0⟩, g1⟩ := HW.out.1.get hlt
    have gl := HW.out.1.lt
    have z4 : (k : Int) < X.length := by omega
    have hhas : Maps.has (mpD (H := Unit) L L.length) (.int .i64 x) = decide (ixP L x < L.length) := by rw [mpD_has]; exact decide_eq_decide.2 ixP_lt.symm
    by_cases hix : ixP L x < L.length
    · rw [decide_eq_true hix] at hhas
      have hc : (mpD (H := Unit) L L.length).atKey (.int .i64 x) (.lit (.int .i64 0)) = .lit (.int .i64 (ixP L x : Int)) := by have := mpD_at (H := Unit) HOK.out.dst (ixP L x) hix (.lit (.int .i64 0)); rwa [ixP_id hix] at this
      go_wp2_with (first | (at_lookup; refine lookup_ok_at _ rfl _ _ 77 rfl 3 3 keyInt Try.underlying77 Try.underlying3 (zeroInt _) b L.length (mpD L L.length) rfl how _ _ rfl hkey (ixP L x : Int) true hhas hc ?_) | go_in)
      go_roundw
      case rel => exact ⟨k + 1, hlt, int_of (by first | rfl | exact w1_ | exact w2_), (fun j hj => by by_cases e : j = k; (subst e; rw [HU.out]; exact hix); exact HK.out j (by omega)), HW.out.1.put hlt (by unfold ixs; rw [gdI_map' _ _ hlt, HU.out]), HW.out.2.setCell (by simp <;> omega) _⟩
      case measure => simp [intOf, w1_, w2_]; clear w1_ w2_; omega
    · rw [decide_eq_false hix] at hhas
      have hc : (mpD (H := Unit) L L.length).atKey (.int .i64 x) (.lit (.int .i64 0)) = .lit (.int .i64 0) := Maps.atKey_of_not_has hhas _
      go_wp2_with (first | (at_lookup; refine lookup_ok_at _ rfl _ _ 77 rfl 3 3 keyInt Try.underlying77 Try.underlying3 (zeroInt _) b L.length (mpD L L.length) rfl how _ _ rfl hkey 0 false hhas hc ?_) | go_in)
      go_ret2
      rcases HE.out with ⟨h, _⟩ | ⟨_, _, rfl⟩ | ⟨_, h, _⟩
      · exact absurd HOK.out h
      · exact ⟨.inl ⟨by decide, rfl⟩, on_below HB.out (HW.out.2.setCell (by simp <;> omega) _)⟩
      · have := h k hlt; rw [HU.out] at this; exact absurd this hix
set_option maxRecDepth 100000 in
set_option maxHeartbeats 4000000 in
theorem twice_is (B : Option Addr) (D : Nat) (X : List Int) (h1000 : X.length ≤ 1000) (hI : ∀ k, k < X.length → I64 (gdI X k)) (r : Bool) (hr : r = true ↔ ¬ DstI X X.length) (w : World) (hx : InS w B X) :
    Calls Try.prog 39 #[.slice B X.length D] w fun e_ w' => e_ = .returned (.bool r) ∧ Below w.heap.size w w' := by
  have HX := Lib.hid hx
  clear hx
  have HR := Lib.hid hr
  clear hr
  have HI := Lib.hid hI
  clear hI
  have hmm := fun n W => makeMapI Try.underlying97 n W
  go_enter Try.func39, Try.ntmps39
  go_wp2_with fail
  clear hmm
  go_loopw [11] (fun i wr => ∃ k : Nat, k ≤ X.length ∧ i = .int .i64 k ∧ Hid (DstI X k) ∧ Hid (wr.ownsMap Try.prog 3 (plainElem (H := Unit) Try.prog 4) w.heap.size k (stD X k)) ∧ Hid (Below w.heap.size w wr)) (fun i _ => X.length - (intOf i).toNat)
  case atStart => exact ⟨0, Nat.zero_le _, rfl, (fun i j _ hj => absurd hj (Nat.not_lt_zero j)), World.ownsMap_made _ _ _ _, (Below.refl _ _).alloc (Nat.le_refl _) _⟩
  case round =>
    obtain ⟨k, hk, rfl, HK, HOW, HW⟩ := hrel
    by_cases hlt : k < X.length
    rotate_left
    · obtain rfl : k = X.length := by omega
      obtain rfl : false = r := false_of fun e => HR.out.1 e HK.out
      go_wp2_with fail
      go_ret
      exact ⟨rfl, HW.out⟩
    have w1_ := wr_up (k := k) (by omega)
    have w2_ := wr_up' (k := k) (by omega)
    obtain ⟨bx, ox, rfl, x0⟩ := HX.out.below HW.out k hlt
    have hkey := keyI (HI.out k hlt)
    have how := HOW.out
    have hat := stD_at (H := Unit) X (gdI X k) k
    have HU := Lib.hid (show ∃ x, gdI X k = x from ⟨_, rfl⟩)
    obtain ⟨x, hu⟩ := HU.out
    clear HU
    rw [hu] at x0 hkey hat
    have HU := Lib.hid hu
    clear hu
    by_cases hd : ∃ j, j < k ∧ gdI X j = x
    · rw [decide_eq_true hd] at hat
      have HD := Lib.hid hd
      clear hd
      obtain rfl : r = true := HR.out.2 fun h => by obtain ⟨j, hj, e⟩ := HD.out; exact h j k hj hlt (by rw [e, HU.out])
      go_wp2_with (first | (at_lookup; refine lookup_bool_at _ rfl _ _ 97 rfl 3 4 keyInt Try.underlying97 Try.underlying4 (zeroBool _) w.heap.size k (stD X k) rfl how _ _ rfl hkey true hat ?_) | go_in)
      go_ret
      exact ⟨rfl, HW.out⟩
    · rw [decide_eq_false hd] at hat
      have HD := Lib.hid hd
      clear hd
      go_wp2_with (first | (at_lookup; refine lookup_bool_at _ rfl _ _ 97 rfl 3 4 keyInt Try.underlying97 Try.underlying4 (zeroBool _) w.heap.size k (stD X k) rfl how _ _ rfl hkey false hat ?_) | (at_mapUpdate; refine wpList_mapUpdate_own _ rfl _ _ _ 97 rfl 3 4 keyInt Try.underlying97 (plainElem (H := Unit) Try.prog 4) w.heap.size k _ rfl how (by unfold maxLen; omega) _ _ _ rfl rfl hkey _ [] (plainElem_bool Try.underlying4 true) ?_; intro w9 hown1 hgrow1) | go_in)
      go_roundw
      case rel => exact ⟨k + 1, hlt, int_of (by first | rfl | exact w1_ | exact w2_), DstI.succ.2 ⟨HK.out, by rw [HU.out]; exact HD.out⟩, (by have e : stD (H := Unit) X (k + 1) = (stD X k).put (.int .i64 (gdI X k)) (.lit (.bool true)) := rfl; rw [e, HU.out]; exact hown1), HW.out.grown hgrow1 HW.out.size (fun j hj => by cases hj; exact Nat.le_refl _)⟩
      case measure => simp [intOf, w1_, w2_]; clear w1_ w2_; omega
set_option maxRecDepth 100000 in
set_option maxHeartbeats 4000000 in
theorem suit_is (A : Option Addr) (C : Nat) (L : List Pl) (B : Option Addr) (D : Nat) (X : List Int) (hlen : X.length ≤ 9223372036854775807) (hI : ∀ k, k < X.length → I64 (gdI X k)) (E : Int) (hE : Sui plOk L X E) (w : World) (hl : PlS w A L) (hx : InS w B X) :
    Calls Try.prog 28 #[.slice A L.length C, .slice B X.length D] w fun e_ w' => InR w w' L X E e_ ∧ Below w.heap.size w w' := by
  have HL := Lib.hid hl
  clear hl
  have HX := Lib.hid hx
  clear hx
  have HE := Lib.hid hE
  clear hE
  by_cases h300 : X.length ≤ 300
  rotate_left
  · go_enter Try.func28, Try.ntmps28
    go_wp2_with fail
    go_ret2
    rcases HE.out with ⟨_, rfl⟩ | ⟨h, _⟩ | ⟨h, _⟩ | ⟨h, _⟩ | ⟨h, _⟩
    · exact ⟨.inl ⟨by decide, rfl⟩, Below.refl _ _⟩
    all_goals exact absurd h h300
  obtain ⟨E1, hE1⟩ : ∃ E1, Idx plOk L X E1 := by
    by_cases h2 : PlanOk plOk L
    · by_cases h3 : ∀ k, k < X.length → ixP L (gdI X k) < L.length
      · exact ⟨0, .inr (.inr ⟨h2, h3, rfl⟩)⟩
      · exact ⟨4, .inr (.inl ⟨h2, h3, rfl⟩)⟩
    · exact ⟨1, .inl ⟨h2, rfl⟩⟩
  have CI := Lib.hid (fun W (h : PlS W A L) (h2 : InS W B X) => ids_is A C L B D X (by omega) hI E1 hE1 W h h2)
  have HE1 := Lib.hid hE1
  clear hE1
  obtain ⟨r, hr⟩ : ∃ r : Bool, r = true ↔ ¬ DstI X X.length := by
    classical
    exact ⟨decide (¬ DstI X X.length), by simp⟩
  have CT := Lib.hid (fun W (h2 : InS W B X) => twice_is B D X (by omega) hI r hr W h2)
  have HR := Lib.hid hr
  clear hr hI
  go_enter Try.func28, Try.ntmps28
  go_wp2_with fail
  with_reducible refine (CI.out _ HL.out HX.out).mono ?_
  rintro e_ w1 ⟨hi, hb⟩
  have HB := Lib.hid hb
  replace HX := Lib.hid (HX.out.below hb)
  clear hb CI HL
  rcases hi with ⟨h0, rfl⟩ | ⟨h0, g, rfl, hg, hri⟩
  · have zz : (E1 != 0) = true := by simp [h0]
    have H0 := Lib.hid h0
    clear h0
    go_wp2_with fail
    go_ret2
    have hEE : E = E1 := by
      rcases HE1.out with ⟨h1, e1⟩ | ⟨h1, h2, e1⟩ | ⟨_, _, e1⟩
      · rcases HE.out with ⟨h, _⟩ | ⟨_, _, e⟩ | ⟨_, h, _⟩ | ⟨_, h, _⟩ | ⟨_, h, _⟩
        · omega
        · rw [e, e1]
        all_goals exact absurd h h1
      · rcases HE.out with ⟨h, _⟩ | ⟨_, h, _⟩ | ⟨_, _, _, e⟩ | ⟨_, _, h, _⟩ | ⟨_, _, h, _⟩
        · omega
        · exact absurd h1 h
        · rw [e, e1]
        all_goals exact absurd h h2
      · exact absurd e1 H0.out
    subst hEE
    exact ⟨.inl ⟨H0.out, rfl⟩, HB.out⟩
  obtain ⟨hok, hall⟩ : PlanOk plOk L ∧ ∀ k, k < X.length → ixP L (gdI X k) < L.length := by
    rcases HE1.out with ⟨_, e1⟩ | ⟨_, _, e1⟩ | ⟨h1, h2, _⟩
    · omega
    · omega
    · exact ⟨h1, h2⟩
  have HA := Lib.hid (And.intro hok hall)
  have HRI := Lib.hid hri
  clear hok hall hri h0 HE1
  go_wp2_with fail
  with_reducible refine (CT.out _ HX.out).mono ?_
  rintro e_ w2 ⟨rfl, hb⟩
  have HB2 := Lib.hid (on_below HB.out hb)
  replace HRI := Lib.hid (HRI.out.on hb)
  clear hb CT HX HB
  cases r
  · go_wp2_with fail
    go_ret2
    have hd : DstI X X.length := Classical.byContradiction fun h => by have := HR.out.2 h; simp at this
    have hEE : E = 0 := by
      rcases HE.out with ⟨h, _⟩ | ⟨_, h, _⟩ | ⟨_, _, h, _⟩ | ⟨_, _, _, h, _⟩ | ⟨_, _, _, _, e⟩
      · omega
      · exact absurd HA.out.1 h
      · exact absurd HA.out.2 h
      · exact absurd hd h
      · exact e
    subst hEE
    exact ⟨.inr ⟨rfl, g, rfl, hg, HRI.out⟩, HB2.out⟩
  · go_wp2_with fail
    go_ret2
    have hd := HR.out.1 (by first | rfl | trivial)
    have hEE : E = 1 := by
      rcases HE.out with ⟨h, _⟩ | ⟨_, h, _⟩ | ⟨_, _, h, _⟩ | ⟨_, _, _, _, e⟩ | ⟨_, _, _, h, _⟩
      · omega
      · exact absurd HA.out.1 h
      · exact absurd HA.out.2 h
      · exact e
      · exact absurd h hd
    subst hEE
    exact ⟨.inl ⟨by decide, rfl⟩, HB2.out⟩
end Go.Proofs.Ytgikpcoaennkgaa

namespace Go.Proofs.Ytgikpcoaennkgaa
open Go.RowKit Go.Sort Go.Shelf
open Go.RowKit (Below)
set_option linter.unusedVariables false
set_option linter.unusedSimpArgs false
attribute [local go_sem] Oper.semAt_some

theorem pts_any (A G : Option Addr) (n C m D : Nat) (w : World) :
    Calls Try.prog 30 #[.slice A n C, .slice G m D] w fun e_ w' => e_ = .returned (.func (.func 42) #[] #[.pointer (some ⟨w.heap.size + 1, 0, none⟩), .pointer (some ⟨w.heap.size, 0, none⟩)]) ∧
      w' = (w.alloc (.cells #[.slice A n C] 22)).alloc (.cells #[.slice G m D] 34) := by
  go_enter Try.func30, Try.ntmps30
  go_wp2
  go_ret
  exact ⟨rfl, rfl⟩
theorem pts_enter (args : Array Value) (W : World) : (callFunc 42 args).run Try.prog W = .ok (.enter 42 args) W := by simp [go_sem]
/-- What a round leaves alone: what lay below b, but for block lb; from b on, the cells that hold no slices of numbers. -/
structure Kq (b lb : Nat) (W W' : World) : Prop where
  size : W.heap.size ≤ W'.heap.size
  low : ∀ g, g < b → g ≠ lb → W'.heap[g]? = W.heap[g]?
  same : ∀ (g : Nat) (cs : Array Value) (t : TypeId) (fz : Nat × Nat), b ≤ g → t ≠ 34 → W.heap[g]? = some (Obj.cells cs t fz) → W'.heap[g]? = some (Obj.cells cs t fz)
section
variable {b lb : Nat} {A B C W W' : World}
theorem Kq.refl (W : World) : Kq b lb W W := ⟨Nat.le_refl _, fun _ _ _ => rfl, fun _ _ _ _ _ _ h => h⟩
theorem Kq.trans (h : Kq b lb A B) (k : Kq b lb B C) : Kq b lb A C := ⟨Nat.le_trans h.size k.size, fun g hg hn => (k.low g hg hn).trans (h.low g hg hn), fun g cs t fz hb ht hg => k.same g cs t fz hb ht (h.same g cs t fz hb ht hg)⟩
theorem Kq.put {l : Nat} {o : Obj} (o' : Obj) (hb : b ≤ l) (hl : W.heap[l]? = some o) (ho : o.isCells = false) : Kq b lb W (W.putObj l o') := by
  have h := Kz.put (T := 34) (W := W) o' hb hl ho
  exact ⟨h.size, fun g hg _ => h.bel.block g hg, fun g cs t fz _ ht hg => h.same g cs t fz ht hg⟩
theorem Kq.of (h : Below W.heap.size W W') (hb : b ≤ W.heap.size) : Kq b lb W W' := ⟨h.size, fun g hg _ => h.block g (by omega), fun g cs t fz _ _ hg => by rw [h.block g (Array.getElem?_eq_some_iff.1 hg).1]; exact hg⟩
end
theorem blk_zero1 {W : World} {g : Nat} {v : Value} {t : TypeId} {fz : Nat × Nat} (h : W.heap[g]? = some (.cells #[v] t fz)) : W.cell? ⟨g, 0, none⟩ = some v := by simp [World.cell?, h]
/-- The places of some indices. -/
def ath (L : List Pl) (s : List Nat) : List Pl := s.map (gdP L)
def gdN (s : List Nat) (i : Nat) : Nat := s.getD i 0
theorem ath_at {L : List Pl} {s : List Nat} {i : Nat} (h : i < s.length) : gdP (ath L s) i = gdP L (gdN s i) := by
  unfold ath gdN; rw [gdP_map h, List.getD_eq_getElem?_getD, List.getElem?_eq_getElem h]; rfl
theorem ath_len (L : List Pl) (s : List Nat) : (ath L s).length = s.length := by unfold ath; simp
def numN (s : List Nat) : List Int := s.map fun i : Nat => (i : Int)
theorem numN_at {s : List Nat} {i : Nat} (h : i < s.length) : gdI (numN s) i = (gdN s i : Int) := by
  rw [gdI_at (by unfold numN; simpa using h)]; unfold numN gdN; simp [h]
theorem numN_len (s : List Nat) : (numN s).length = s.length := by unfold numN; simp
theorem wr_up2 {k k2 : Nat} (e : k2 = k + 1) (h : k ≤ 100000) : IntKind.i64.wrap ((k : Int) + 1) = (k2 : Int) := by subst e; exact (wr_up h).trans (by omega)
theorem wr_up2' {k k2 : Nat} (e : k2 = k + 1) (h : k ≤ 100000) : wrap64 ((k : Int) + 1) = (k2 : Int) := by subst e; exact (wr_up' h).trans (by omega)
/-- The k-th round is given the k-th part, in memory of its own. -/
def PtA (b : Nat) (d : List (List Int)) (k : Nat) (args : Array Value) (W : World) : Prop :=
  k < d.length ∧ ∃ v, args = #[v] ∧ W.ownsRow b 3 1 v (gdL d k).length ((gdL d k).map (Value.int .i64))
theorem own_base {w : World} {b b' e size n : Nat} {v : Value} {xs : List Value} (h : w.ownsRow b e size v n xs) (hb : b' ≤ b) : w.ownsRow b' e size v n xs := own_rebase h hb
/-- The rounds between two calls of yield. -/
structure Rd (b lb : Nat) (J : Nat → World → Prop) (S : List Pl) (k : Nat) (W : World) (v : Value) (wr : World) : Prop where
  ex : ∃ Wy, J (prs S k).1.length Wy ∧ Kq b lb W Wy ∧ Below Wy.heap.size Wy wr ∧ b ≤ Wy.heap.size ∧ wr.ownsRow Wy.heap.size 3 1 v (prs S k).2.length ((prs S k).2.map (Value.int .i64))
theorem Rd.kq {b lb : Nat} {J : Nat → World → Prop} {S : List Pl} {k : Nat} {W wr : World} {v : Value} (h : Rd b lb J S k W v wr) : Kq b lb W wr := by
  obtain ⟨Wy, _, h2, h3, h4, _⟩ := h.ex
  exact h2.trans (Kq.of h3 h4)
theorem Rd.below {b lb : Nat} {J : Nat → World → Prop} {S : List Pl} {k : Nat} {W wr wr' : World} {v : Value} (h : Rd b lb J S k W v wr) (hb : Below wr.heap.size wr wr') : Rd b lb J S k W v wr' := by
  obtain ⟨Wy, h1, h2, h3, h4, h5⟩ := h.ex
  exact ⟨Wy, h1, h2, on_below h3 hb, h4, own_below h5 hb⟩
theorem app_bel' {V wr u : World} {o : Obj} {e size n : Nat} {v : Value} {xs : List Value} (hb : Below V.heap.size V wr) (own : wr.ownsRow V.heap.size e size v n xs) (gr : (wr.alloc o).grownBy u v.ownBlock) : Below V.heap.size V u :=
  (on_below hb (below_new wr o)).grown gr (on_below hb (below_new wr o)).size fun k e => (own.lt k e).1
theorem snoc_own {u : World} {B e n : Nat} {v : Value} {X Y : List Int} {x : Int} (h : u.ownsRow B e 1 v (n + 1) (X.map (Value.int .i64) ++ [.int .i64 x])) (hn : n = X.length) (hY : X ++ [x] = Y) : u.ownsRow B e 1 v Y.length (Y.map (Value.int .i64)) := by
  subst hY hn
  simpa [List.map_append] using h
set_option maxRecDepth 100000 in
set_option maxHeartbeats 4000000 in
theorem parts_seq (n : Nat) (hn : 1 ≤ n) (gi gp lb : Nat) (A : Option Addr) (C : Nat) (L : List Pl) (G : Option Addr) (D : Nat) (s : List Nat) (m0 : Nat) (hm0 : s.length = m0) (hs : ∀ i, i < s.length → gdN s i < L.length) (hl : L.length ≤ 300) (hsl : s.length ≤ 300) (hok : ∀ k, k < L.length → plOk (gdP L k) = true) (w : World)
    (HF0 : ∀ W', (∀ g, g < w.heap.size → g ≠ lb → W'.heap[g]? = w.heap[g]?) → PlS W' A L ∧ InS W' G (numN s) ∧ W'.heap[gi]? = some (.cells #[.slice G m0 D] 34 (0, 0)) ∧ W'.heap[gp]? = some (.cells #[.slice A L.length C] 22 (0, 0))) :
    SeqN n Try.prog 42 #[.pointer (some ⟨gi, 0, none⟩), .pointer (some ⟨gp, 0, none⟩)] (parts (ath L s)).length (PtA w.heap.size (parts (ath L s))) (Kq w.heap.size lb) w := by
  subst hm0
  intro l J Jx W hW hJ hJx hY hJ0
  have HF := Lib.hid (fun W' (h : Kq w.heap.size lb W W') => HF0 W' (fun g hg hne => (h.low g hg hne).trans (hW.block g hg)))
  have HWS := Lib.hid hW.size
  have HJ := Lib.hid hJ
  have HY := Lib.hid hY
  have H0 := Lib.hid hJ0
  have HOK := Lib.hid hok
  have HSX := Lib.hid hs
  obtain ⟨_, _, kgi, kgp⟩ := HF.out W (Kq.refl _)
  have c1 := blk_zero1 kgi
  have c2 := blk_zero1 kgp
  clear kgi kgp
  clear hW hJ hJx hY hJ0 HF0 hok hs
  refine callsIn_of_wp Try.func42 rfl trivial ?_ rfl
  simp only [Try.ntmps42, List.size_toArray, List.length_cons, List.length_nil, Nat.reduceAdd, Nat.reduceSub, Array.replicate_succ, Array.replicate_zero, List.push_toArray, List.append_toArray, List.nil_append, List.cons_append]
  have hmx : Try.prog.follows .mixedOrders = true := by kernel_rfl
  obtain ⟨i0, hi0, hz0, hz1, hz2⟩ := info_of infoInt
  gi_wp2_with fail
  gi_loopw [4, 9] (fun pv i wr => ∃ k : Nat, k ≤ s.length ∧ i = .int .i64 k ∧ Hid (Rd w.heap.size lb J (ath L s) k W pv wr)) (fun _ i _ => s.length - (intOf i).toNat)
  case atStart => exact ⟨0, Nat.zero_le _, rfl, ⟨W, H0.out, Kq.refl _, Below.refl _ _, HWS.out, World.ownsRow_nil _ _ _ _⟩⟩
  case round =>
    obtain ⟨k, hk, rfl, HI⟩ := hrel
    clear c1 c2 H0
    by_cases hlt : k < s.length
    rotate_left
    · have hk2 : k = s.length := by omega
      have HD := Lib.hid (show J (parts (ath L s)).length wr from by
        obtain ⟨Wy, h1, _, h3, h4, _⟩ := HI.out.ex
        have e : (prs (ath L s) k).1 = parts (ath L s) := by unfold parts; rw [ath_len, hk2]
        rw [e] at h1
        exact HJ.out _ _ _ none h1 (grown_of h3) (by rintro r e; cases e))
      clear hk2
      gi_wp2
      go_end0
      exact ⟨⟨_, rfl⟩, .inl HD.out⟩
    obtain ⟨hpl, hin, kgi, kgp⟩ := HF.out wr HI.out.kq
    have c1 := blk_zero1 kgi
    have c2 := blk_zero1 kgp
    obtain ⟨bx, ox, rfl, x0⟩ := hin k (by rw [numN_len]; exact hlt)
    rw [numN_at hlt] at x0
    have hsk := HSX.out k hlt
    obtain ⟨b0, o0, rfl, e0, e1, e2, e3, e4, e5, e6⟩ := hpl _ hsk
    have hok2 := HOK.out _ hsk
    have HU := Lib.hid (show ∃ u, gdP L (gdN s k) = u from ⟨_, rfl⟩)
    obtain ⟨u, hu⟩ := HU.out
    clear HU
    rw [hu] at e0 e1 e2 e3 e4 e5 e6 hok2
    have HU := Lib.hid hu
    clear hu
    have HOKU := Lib.hid hok2
    clear hok2
    obtain ⟨pi, pa, pb, px, py, pz, pk⟩ := u
    dsimp only at e0 e1 e2 e3 e4 e5 e6
    generalize hm : gdN s k = m at *
    have HM := Lib.hid hm
    clear hm
    have hsk2 : (m : Int) < L.length := by omega
    have hlt2 : (k : Int) < s.length := by omega
    have hcl := prs_cur_len (S := ath L s) (j := k) (by rw [ath_len]; omega)
    obtain ⟨Wy, hJy, hKy, hBy, hby, hown⟩ := HI.out.ex
    clear HI hin hpl kgi kgp
    have HJy := Lib.hid hJy
    have HKy := Lib.hid hKy
    have HBy := Lib.hid hBy
    have HOW := Lib.hid hown
    clear hJy hKy hBy hown
    generalize hcc : (prs (ath L s) k).2 = c at *
    generalize hdd : (prs (ath L s) k).1 = d at *
    have HPR := Lib.hid (And.intro hcc hdd)
    clear hcc hdd
    have hm1 : c.length + 1 ≤ maxLen := by unfold maxLen; omega
    have hm2 : (c.length + 1) * 8 ≤ 140737488355328 := by omega
    have hk9 : k ≤ 100000 := by omega
    have w1_ := wr_up hk9
    have w2_ := wr_up' hk9
    gi_wp2_with (refine wpListIn_append_own _ rfl (.tmp 14) (.tmp 20) 34 rfl Wy.heap.size 3 i0 _ 1 8 Try.underlying34 hi0 hz0 hz1 hz2 rfl (by decide) _ _ _ rfl (HOW.out.alloc _) ⟨wr.heap.size, 0, none⟩ 1 1 [.int .i64 pi] rfl rfl (new_k wr pi 3) one_k hm1 hm2 (Nat.le_trans HBy.out.size (below_new _ _).size) ?_; intro v1 u1 own1 gr1 nil1; have HB1 := Lib.hid (app_bel' HBy.out HOW.out gr1); have HO1 := Lib.hid own1; clear own1 gr1 nil1)
    clear c1 c2 x0 e0 e1 e2 e3 e4 e5 e6 HOW
    have HKU := Lib.hid (HKy.out.trans (Kq.of HB1.out hby))
    obtain ⟨hpl, hin, kgi, kgp⟩ := HF.out u1 HKU.out
    have c1 := blk_zero1 kgi
    have c2 := blk_zero1 kgp
    obtain ⟨b9, o9, e9, x0⟩ := hin k (by rw [numN_len]; exact hlt)
    injection e9 with e9
    injection e9 with ea eb _
    subst ea eb
    rw [numN_at hlt, HM.out] at x0
    obtain ⟨b9, o9, e9, e0, e1, e2, e3, e4, e5, e6⟩ := hpl m hsk
    injection e9 with e9
    injection e9 with ea eb _
    subst ea eb
    rw [HU.out] at e0 e1 e2 e3 e4 e5 e6
    dsimp only at e0 e1 e2 e3 e4 e5 e6
    have HID := Lib.hid (show gdP (ath L s) k = ⟨pi, pa, pb, px, py, pz, pk⟩ by rw [ath_at hlt, HM.out]; exact HU.out)
    by_cases hnx : k + 1 < s.length
    rotate_left
    · have HC := Lib.hid (show cutP (ath L s) k = true by unfold cutP; rw [ath_len, decide_eq_false hnx]; rfl)
      clear w1_ w2_
      have z5 : ¬ ((k : Int) + 1 < (s.length : Int)) := by omega
      have w1_ := wr_up hk9
      have w2_ := wr_up' hk9
      clear hpl hin kgi kgp
      refine wpIn_wide.2 ?_
      go_quiet (fail)
      have HB1q := Lib.hid (show Below Wy.heap.size Wy (u1.drewN nq) from below_drewN' HB1.out nq)
      have HO1q := Lib.hid (show (u1.drewN nq).ownsRow Wy.heap.size 3 1 v1 (c.length + 1) (c.map (Value.int .i64) ++ [.int .i64 pi]) from HO1.out)
      clear HB1 HO1 HKU c1 c2 x0 e0 e1 e2 e3 e4 e5 e6
      generalize u1.drewN nq = V1 at *
      have hpa := parts_at (S := ath L s) (j := k) (by rw [ath_len]; exact hlt) HC.out
      have hcu := prs_cut HC.out
      rw [HPR.out.1, HPR.out.2, HID.out] at hpa hcu
      dsimp only at hpa hcu
      have HPA := Lib.hid hpa
      have HCU := Lib.hid hcu
      clear hpa hcu
      have HOW2 := Lib.hid (snoc_own HO1q.out rfl HPA.out.2.symm)
      have HJV := Lib.hid (HJ.out _ _ _ none HJy.out (grown_of HB1q.out) (by rintro r e; cases e))
      have HKV := Lib.hid (HKy.out.trans (Kq.of HB1q.out hby))
      obtain ⟨fn, tmps, assign, body, hy, hR⟩ := yc_of (HY.out d.length #[v1] _ HPA.out.1 HJV.out ⟨HPA.out.1, v1, rfl, own_base HOW2.out hby⟩)
      have HR := Lib.hid hR
      clear hR HJV HY HOW2
      gi_wp2_with fail
      refine (round_room (m := n - 1) HR.out).mono ?_
      rintro e W3 ⟨b, rfl, hYB⟩
      clear hy HR
      rcases hYB with ⟨rfl, h1, h2, h3⟩ | ⟨rfl, h1, h3⟩
      · have HG := Lib.hid (show Rd w.heap.size lb J (ath L s) (k + 1) W (.slice none 0 0) W3 from ⟨W3, (by rw [HCU.out]; simpa using h1), HKV.out.trans h2, Below.refl _ _, Nat.le_trans hby (Nat.le_trans HB1q.out.size h2.size), (by rw [HCU.out]; exact World.ownsRow_nil _ _ _ _)⟩)
        clear h1 h2 h3 HKV
        gi_wp2
        go_roundw
        case rel => exact ⟨k + 1, hlt, int_of (by first | rfl | exact w1_ | exact w2_), HG.out⟩
        case measure => simp [intOf, w1_, w2_]; clear w1_ w2_; omega
      · have HG := Lib.hid (show d.length + 1 ≤ (parts (ath L s)).length ∧ Jx (d.length + 1) W3 from ⟨HPA.out.1, h1⟩)
        clear h1 h3 HKV
        gi_wp2
        refine bodyPost_ret (results_none rfl _ _ _) rfl ?_
        exact ⟨⟨_, rfl⟩, .inr ⟨_, HG.out⟩⟩
    obtain ⟨b9, o9, e9, x1⟩ := hin (k + 1) (by rw [numN_len]; exact hnx)
    injection e9 with e9
    injection e9 with ea eb _
    subst ea eb
    rw [numN_at hnx] at x1
    have hsk3 := HSX.out (k + 1) hnx
    have HM2 := Lib.hid (show ∃ q, gdN s (k + 1) = q from ⟨_, rfl⟩)
    obtain ⟨m2, hm2_⟩ := HM2.out
    clear HM2
    rw [hm2_] at x1 hsk3
    have HM2 := Lib.hid hm2_
    clear hm2_
    clear w1_ w2_
    have hsk4 : (m2 : Int) < L.length := by omega
    obtain ⟨k2, hk2⟩ : ∃ k2, k2 = k + 1 := ⟨_, rfl⟩
    rw [← hk2] at x1
    have hk3 : k ≤ 100000 := by omega
    have hnx2 : (k2 : Int) < s.length := by omega
    have w1_ := wr_up2 hk2 hk3
    have w2_ := wr_up2' hk2 hk3
    have HK2 := Lib.hid hk2
    clear hk2 hk3
    obtain ⟨b9, o9, e9, d0, d1, d2, d3, d4, d5, d6⟩ := hpl m2 hsk3
    injection e9 with e9
    injection e9 with ea eb _
    subst ea eb
    have hok3 := HOK.out _ hsk3
    have HV := Lib.hid (show ∃ u, gdP L m2 = u from ⟨_, rfl⟩)
    obtain ⟨v, hv⟩ := HV.out
    clear HV
    rw [hv] at d0 d1 d2 d3 d4 d5 d6 hok3
    have HV := Lib.hid hv
    clear hv
    obtain ⟨ri, ra, rb, rx, ry, rz, rk⟩ := v
    dsimp only at d0 d1 d2 d3 d4 d5 d6
    have HID2 := Lib.hid (show gdP (ath L s) (k + 1) = ⟨ri, ra, rb, rx, ry, rz, rk⟩ by rw [ath_at hnx, HM2.out]; exact HV.out)
    obtain ⟨r, hr⟩ : ∃ r, nxt ⟨pi, pa, pb, px, py, pz, pk⟩ ⟨ri, ra, rb, rx, ry, rz, rk⟩ = r := ⟨_, rfl⟩
    have KQ := Lib.hid (bsd_is ⟨pi, pa, pb, px, py, pz, pk⟩ ⟨ri, ra, rb, rx, ry, rz, rk⟩ (plOk_rng HOKU.out).2.2 (plOk_rng hok3).2.2 r hr)
    have HRR := Lib.hid hr
    clear hr hok3 hpl hin kgi kgp
    refine wpIn_wide.2 ?_
    have kp : ∀ {W : World}, Below u1.heap.size u1 W → W.cell? ⟨gi, 0, none⟩ = some (.slice (some ⟨bx, ox, none⟩) s.length D) ∧ W.cell? ⟨gp, 0, none⟩ = some (.slice (some ⟨b0, o0, none⟩) L.length C) ∧ W.cell? ⟨b0, o0 + m * 7, none⟩ = some (.int .i64 pi) ∧ W.cell? ⟨b0, o0 + m * 7 + 1, none⟩ = some (.int .i64 pa) ∧ W.cell? ⟨b0, o0 + m * 7 + 2, none⟩ = some (.int .i64 pb) ∧ W.cell? ⟨b0, o0 + m * 7 + 3, none⟩ = some (.int .i64 px) ∧ W.cell? ⟨b0, o0 + m * 7 + 4, none⟩ = some (.int .i64 py) ∧ W.cell? ⟨b0, o0 + m * 7 + 5, none⟩ = some (.int .i64 pz) ∧ W.cell? ⟨b0, o0 + m * 7 + 6, none⟩ = some (.int .i64 pk) ∧ W.cell? ⟨bx, ox + k2, none⟩ = some (.int .i64 (m2 : Int)) ∧ W.cell? ⟨b0, o0 + m2 * 7, none⟩ = some (.int .i64 ri) ∧ W.cell? ⟨b0, o0 + m2 * 7 + 1, none⟩ = some (.int .i64 ra) ∧ W.cell? ⟨b0, o0 + m2 * 7 + 2, none⟩ = some (.int .i64 rb) ∧ W.cell? ⟨b0, o0 + m2 * 7 + 3, none⟩ = some (.int .i64 rx) ∧ W.cell? ⟨b0, o0 + m2 * 7 + 4, none⟩ = some (.int .i64 ry) ∧ W.cell? ⟨b0, o0 + m2 * 7 + 5, none⟩ = some (.int .i64 rz) ∧ W.cell? ⟨b0, o0 + m2 * 7 + 6, none⟩ = some (.int .i64 rk) ∧ Below u1.heap.size u1 W := fun h => ⟨keepc h c1, keepc h c2, keepc h e0, keepc h e1, keepc h e2, keepc h e3, keepc h e4, keepc h e5, keepc h e6, keepc h x1, keepc h d0, keepc h d1, keepc h d2, keepc h d3, keepc h d4, keepc h d5, keepc h d6, h⟩
    go_region_held3 (fun W => W.cell? ⟨gi, 0, none⟩ = some (.slice (some ⟨bx, ox, none⟩) s.length D) ∧ W.cell? ⟨gp, 0, none⟩ = some (.slice (some ⟨b0, o0, none⟩) L.length C) ∧ W.cell? ⟨b0, o0 + m * 7, none⟩ = some (.int .i64 pi) ∧ W.cell? ⟨b0, o0 + m * 7 + 1, none⟩ = some (.int .i64 pa) ∧ W.cell? ⟨b0, o0 + m * 7 + 2, none⟩ = some (.int .i64 pb) ∧ W.cell? ⟨b0, o0 + m * 7 + 3, none⟩ = some (.int .i64 px) ∧ W.cell? ⟨b0, o0 + m * 7 + 4, none⟩ = some (.int .i64 py) ∧ W.cell? ⟨b0, o0 + m * 7 + 5, none⟩ = some (.int .i64 pz) ∧ W.cell? ⟨b0, o0 + m * 7 + 6, none⟩ = some (.int .i64 pk) ∧ W.cell? ⟨bx, ox + k2, none⟩ = some (.int .i64 (m2 : Int)) ∧ W.cell? ⟨b0, o0 + m2 * 7, none⟩ = some (.int .i64 ri) ∧ W.cell? ⟨b0, o0 + m2 * 7 + 1, none⟩ = some (.int .i64 ra) ∧ W.cell? ⟨b0, o0 + m2 * 7 + 2, none⟩ = some (.int .i64 rb) ∧ W.cell? ⟨b0, o0 + m2 * 7 + 3, none⟩ = some (.int .i64 rx) ∧ W.cell? ⟨b0, o0 + m2 * 7 + 4, none⟩ = some (.int .i64 ry) ∧ W.cell? ⟨b0, o0 + m2 * 7 + 5, none⟩ = some (.int .i64 rz) ∧ W.cell? ⟨b0, o0 + m2 * 7 + 6, none⟩ = some (.int .i64 rk) ∧ Below u1.heap.size u1 W)
      (first | assumption | exact kp (Below.refl _ _).drew | (go_split_ands; refine kp ?_; (first | (refine on_below ?_ hb; assumption) | assumption)))
      (first | (go_at_call 27; (with_reducible refine (KQ.out _).mono ?_); rintro e' wh ⟨rfl, hb⟩))
    go_split_ands
    have hB : Below u1.heap.size u1 wh := by assumption
    have HB2 := Lib.hid (on_below HB1.out hB)
    have HO2 := Lib.hid (own_below HO1.out hB)
    clear hB kp c1 c2 x0 x1 d0 d1 d2 d3 d4 d5 d6 e0 e1 e2 e3 e4 e5 e6 HB1 HO1
    have hcu : cutP (ath L s) k = !r := by unfold cutP; rw [ath_len, decide_eq_true hnx, HID.out, HID2.out, HRR.out]; rfl
    cases r
    · have HC := Lib.hid (show cutP (ath L s) k = true from hcu)
      clear hcu
      have hpa := parts_at (S := ath L s) (j := k) (by rw [ath_len]; exact hlt) HC.out
      have hcu := prs_cut HC.out
      rw [HPR.out.1, HPR.out.2, HID.out] at hpa hcu
      dsimp only at hpa hcu
      have HPA := Lib.hid hpa
      have HCU := Lib.hid hcu
      clear hpa hcu
      have HOW2 := Lib.hid (snoc_own HO2.out rfl HPA.out.2.symm)
      have HJV := Lib.hid (HJ.out _ _ _ none HJy.out (grown_of HB2.out) (by rintro r e; cases e))
      have HKV := Lib.hid (HKy.out.trans (Kq.of HB2.out hby))
      obtain ⟨fn, tmps, assign, body, hy, hR⟩ := yc_of (HY.out d.length #[v1] _ HPA.out.1 HJV.out ⟨HPA.out.1, v1, rfl, own_base HOW2.out hby⟩)
      have HR := Lib.hid hR
      clear hR HJV HY HOW2
      gi_wp2_with fail
      refine (round_room (m := n - 1) HR.out).mono ?_
      rintro e W3 ⟨b, rfl, hYB⟩
      clear hy HR
      rcases hYB with ⟨rfl, h1, h2, h3⟩ | ⟨rfl, h1, h3⟩
      · have HG := Lib.hid (show Rd w.heap.size lb J (ath L s) (k + 1) W (.slice none 0 0) W3 from ⟨W3, (by rw [HCU.out]; simpa using h1), HKV.out.trans h2, Below.refl _ _, Nat.le_trans hby (Nat.le_trans HB2.out.size h2.size), (by rw [HCU.out]; exact World.ownsRow_nil _ _ _ _)⟩)
        clear h1 h2 h3 HKV
        gi_wp2
        go_roundw
        case rel => exact ⟨k2, (by have h9 := HK2.out; clear w1_ w2_; omega), (by clear HK2; first | rfl | (congr 1; first | exact w1_ | exact w2_)), (by rw [HK2.out]; exact HG.out)⟩
        case measure => simp [intOf, w1_, w2_]; have := HK2.out; clear w1_ w2_; omega
      · have HG := Lib.hid (show d.length + 1 ≤ (parts (ath L s)).length ∧ Jx (d.length + 1) W3 from ⟨HPA.out.1, h1⟩)
        clear h1 h3 HKV
        gi_wp2
        refine bodyPost_ret (results_none rfl _ _ _) rfl ?_
        exact ⟨⟨_, rfl⟩, .inr ⟨_, HG.out⟩⟩
    · have hgo := prs_go (show cutP (ath L s) k = false from hcu)
      rw [HPR.out.1, HPR.out.2, HID.out] at hgo
      dsimp only at hgo
      have HG := Lib.hid (show Rd w.heap.size lb J (ath L s) (k + 1) W v1 wh from ⟨Wy, (by rw [hgo]; exact HJy.out), HKy.out, HB2.out, hby, (by rw [hgo]; exact snoc_own HO2.out rfl rfl)⟩)
      clear hgo hcu
      gi_wp2_with fail
      go_roundw
      case rel => exact ⟨k2, (by have h9 := HK2.out; clear w1_ w2_; omega), (by clear HK2; first | rfl | (congr 1; first | exact w1_ | exact w2_)), (by rw [HK2.out]; exact HG.out)⟩
      case measure => simp [intOf, w1_, w2_]; have := HK2.out; clear w1_ w2_; omega
end Go.Proofs.Ytgikpcoaennkgaa

namespace Go.Proofs.Ytgikpcoaennkgaa
open Go.RowKit Go.Sort Go.Shelf
open Go.RowKit (Below)
set_option linter.unusedVariables false
set_option linter.unusedSimpArgs false
attribute [local go_sem] Oper.semAt_some

theorem heap_put_other {α : Type} [Inhabited α] (enc : α → Value) (w : World) (blk off : Nat) (d : Array α) (b : Nat) (h : b ≠ blk) : (putRow enc w blk off d).heap[b]? = w.heap[b]? := by
  unfold putRow mapBlock
  simp [Array.getElem?_modify, Ne.symm h]
theorem sort_is (g n : Nat) (zs : List Int) (hl : zs.length = n) (h1000 : n ≤ 1000) (w : World) (hg : g < w.heap.size) (h : Ri g n n (gdI zs) w) :
    Calls Try.prog 29 #[.slice (some ⟨g, 0, none⟩) n n] w fun e w' => e = .returned (.tuple #[]) ∧ InS w' (some ⟨g, 0, none⟩) (zs.mergeSort fun x y => decide (x ≤ y)) ∧ (∀ b, b < w.heap.size → b ≠ g → w'.heap[b]? = w.heap[b]?) ∧ Below g w w' := by
  have hH : Holds (Value.int .i64) w g 0 zs.toArray := by
    intro j hj
    have hj' : j < n := by rw [← hl]; simpa using hj
    rw [Nat.zero_add]
    refine ⟨?_, (h.get hj').2⟩
    rw [h.at hj', getElem!_pos _ j hj, gdI_at (by omega)]
    simp
  subst hl
  refine (Try.slices_Sort_int g 0 zs.length zs w hH hg (by omega)).mono fun e w' ⟨he, m, os, hw⟩ => ?_
  subst hw
  have hh : Holds (Value.int .i64) (grow (putRow (Value.int .i64) (Sort.ahead w m) g 0 (zs.mergeSort fun x y => decide (x ≤ y)).toArray) os) g 0 (zs.mergeSort fun x y => decide (x ≤ y)).toArray := by
    rw [← putRow_grow (Value.int .i64) (Sort.ahead w m) os g 0 _ hg]
    exact holds_putRow (Value.int .i64) _ g 0 zs.toArray _ (holds_grow (Value.int .i64) _ _ g 0 _ hg (holds_ahead (Value.int .i64) w m g 0 _ hH)) (by simp)
  have hoth : ∀ b, b < w.heap.size → b ≠ g → (grow (putRow (Value.int .i64) (Sort.ahead w m) g 0 (zs.mergeSort fun x y => decide (x ≤ y)).toArray) os).heap[b]? = w.heap[b]? := by
    intro b hb hne
    rw [heap_grow_old _ _ (by simpa [putRow, mapBlock] using hb), heap_put_other _ _ _ _ _ _ hne]
    rfl
  refine ⟨he, fun j hj => ⟨g, 0, rfl, ?_⟩, hoth, ⟨rfl, rfl, rfl, ?_, fun k hk => hoth k (by omega) (by omega)⟩⟩
  · have h2 := (hh j (by simpa using hj)).1
    rw [h2, getElem!_pos _ j (by simpa using hj), gdI_at hj]
    simp
  · simp [putRow, mapBlock]
theorem PlS.same {w w' : World} {A : Option Addr} {L : List Pl} (h : PlS w A L) (hs : ∀ g, g < w.heap.size → w'.heap[g]? = w.heap[g]?) : PlS w' A L := fun k hk => by
  have cl : ∀ {a : Addr} {v : Value}, w.cell? a = some v → w'.cell? a = some v := fun {a v} h => by rw [World.cell?_of_block (a := a) (hs a.block (block_lt h))]; exact h
  obtain ⟨b, o, e, h0, h1, h2, h3, h4, h5, h6⟩ := h k hk
  exact ⟨b, o, e, cl h0, cl h1, cl h2, cl h3, cl h4, cl h5, cl h6⟩
theorem InS.same {w w' : World} {A : Option Addr} {X : List Int} (h : InS w A X) (hs : ∀ g, g < w.heap.size → w'.heap[g]? = w.heap[g]?) : InS w' A X := fun k hk => by
  obtain ⟨b, o, e, h0⟩ := h k hk
  exact ⟨b, o, e, by rw [World.cell?_of_block (a := ⟨b, o + k, none⟩) (hs b (block_lt h0))]; exact h0⟩
theorem own_row {w w' : World} {b e size n : Nat} {v : Value} {xs : List Value} {row : Option Nat} (h : w.ownsRow b e size v n xs) (hg : w.grownBy w' row) (hr : ∀ r, row = some r → ∃ o : Obj, w.heap[r]? = some o ∧ o.isCells = false) : w'.ownsRow b e size v n xs := by
  refine h.kept hg ?_
  cases hv : v.ownBlock with
  | none => exact .inl rfl
  | some g =>
    right
    intro e
    obtain ⟨o, ho, hc⟩ := hr g e.symm
    rcases h.2 with ⟨rfl, _⟩ | ⟨g', cap, cur, rfl, _, hb, _⟩
    · cases hv
    · injection hv with hv
      subst hv
      rw [hb] at ho
      cases ho
      cases hc
/-- Two rows of different types lie apart. -/
theorem own_apart {w : World} {b e b2 e2 s s2 n n2 : Nat} {v v2 : Value} {xs ys : List Value} (h : w.ownsRow b e s v n xs) (k : w.ownsRow b2 e2 s2 v2 n2 ys) (hne : e ≠ e2) : v.ownBlock = none ∨ v.ownBlock ≠ v2.ownBlock := by
  rcases h.2 with ⟨rfl, _⟩ | ⟨g, cap, cur, rfl, _, hb, _⟩
  · exact .inl rfl
  · right
    intro e3
    rcases k.2 with ⟨rfl, _⟩ | ⟨g', cap', cur', rfl, _, hb', _⟩
    · cases e3
    · injection e3 with e3
      subst e3
      change w.heap[g]? = _ at hb'
      rw [hb] at hb'
      injection hb' with hb'
      injection hb' with _ hb' _
      exact hne hb'
theorem keeps_row {B : Nat} {w w' : World} {row : Option Nat} (hg : w.grownBy w' row) (hr : ∀ r, row = some r → ∃ cs t fz, w.heap[r]? = some (Obj.cells cs t fz)) : KeepsFrom B w w' :=
  ⟨hg.size, fun k o _ hk ho => (hg.block k (Array.getElem?_eq_some_iff.1 hk).1 (fun e => by
    obtain ⟨cs, t, fz, h⟩ := hr k e.symm
    rw [hk] at h
    cases h
    cases ho)).trans hk⟩
theorem own_cells {w : World} {b e size n : Nat} {v : Value} {xs : List Value} (h : w.ownsRow b e size v n xs) : ∀ r, v.ownBlock = some r → b ≤ r ∧ ∃ cs, w.heap[r]? = some (Obj.cells cs e (0, 0)) := fun r hr => by
  rcases h.2 with ⟨rfl, _⟩ | ⟨g, cap, cur, rfl, hbg, hb, _⟩
  · cases hr
  · injection hr with hr
    subst hr
    exact ⟨hbg, _, hb⟩
theorem infoIS : (Try.prog.info? 34).map (fun i => (i.zero, i.size, i.bytes)) = some (some (.slice none 0 0), 1, 24) := by kernel_rfl
theorem new_s (wr : World) (x : Value) (t : TypeId) (j : Nat) (u : Value) (h : [x][j]? = some u) : (wr.alloc (.cells #[x] t)).cell? ((⟨wr.heap.size, 0, none⟩ : Addr).add j) = some u := by
  cases j with
  | zero => simp at h; subst h; simp [go_sem, Addr.add]
  | succ j => simp at h
theorem one_s {A : Option Addr} {n C : Nat} : ∀ u ∈ [Value.slice A n C], u.oneCell' = true := by simp [Value.oneCell']
/-- The loop of Parts: the box of its list, the list, the parts in it. -/
structure Pi (w0 : Nat) (we : World) (lb B : Nat) (d : List (List Int)) (k : Nat) (W : World) : Prop where
  ex : ∃ v vs, W.heap[lb]? = some (.cells #[v] 37 (0, 0)) ∧ W.ownsRow B 34 1 v k vs ∧ ∀ i, i < k → ∃ pv, vs[i]? = some pv ∧ W.ownsRow B 3 1 pv (gdL d i).length ((gdL d i).map (Value.int .i64))
  bel : Below w0 we W
  size : B ≤ W.heap.size
theorem Pi.row {w0 lb B k : Nat} {we : World} {d : List (List Int)} {W W' : World} {row : Option Nat} (h : Pi w0 we lb B d k W) (hg : W.grownBy W' row) (hr : ∀ r, row = some r → w0 ≤ r ∧ ∃ o : Obj, W.heap[r]? = some o ∧ o.isCells = false) (hw : w0 ≤ we.heap.size) : Pi w0 we lb B d k W' := by
  obtain ⟨v, vs, h1, h2, h3⟩ := h.ex
  refine ⟨⟨v, vs, blk_row h1 hg (fun r e => (hr r e).2), own_row h2 hg (fun r e => (hr r e).2), fun i hi => ?_⟩, h.bel.grown hg (Nat.le_trans hw h.bel.size) (fun j e => (hr j e).1), Nat.le_trans h.size hg.size⟩
  obtain ⟨pv, e, h4⟩ := h3 i hi
  exact ⟨pv, e, own_row h4 hg (fun r e => (hr r e).2)⟩
theorem Pi.own {w0 lb B B2 : Nat} {we : World} {d : List (List Int)} (hB : w0 ≤ B2) (hw : w0 ≤ we.heap.size) : OwnFrom B2 (fun k W => Pi w0 we lb B d k W) :=
  fun k W W' row h hg hr => h.row hg (fun r e => ⟨Nat.le_trans hB (hr r e).1, (hr r e).2⟩) hw
theorem own_setc {w : World} {b e size n : Nat} {v : Value} {xs : List Value} (h : w.ownsRow b e size v n xs) (lb i : Nat) (u : Value) (hne : v.ownBlock ≠ some lb) : (w.setCell ⟨lb, i, none⟩ u).ownsRow b e size v n xs :=
  h.kept (row := some lb) ⟨rfl, rfl, rfl, by simp, fun k hk hn => Below.heap_setCell w ⟨lb, i, none⟩ u k (fun e => hn (by rw [e]))⟩ (.inr hne)
theorem Pi.step {w0 lb B k : Nat} {we : World} {d : List (List Int)} {Wb u1 : World} {lv v1 pv : Value} {vs : List Value}
    (hbx : Wb.heap[lb]? = some (.cells #[lv] 37 (0, 0))) (hown : Wb.ownsRow B 34 1 lv k vs) (hps : ∀ i, i < k → ∃ q, vs[i]? = some q ∧ Wb.ownsRow B 3 1 q (gdL d i).length ((gdL d i).map (Value.int .i64))) (hv : Wb.ownsRow B 3 1 pv (gdL d k).length ((gdL d k).map (Value.int .i64)))
    (bel : Below w0 we Wb) (size : B ≤ Wb.heap.size) (hw : w0 ≤ we.heap.size) (hlw : w0 ≤ lb) (hlB : lb < B) (o : Obj) (own1 : u1.ownsRow B 34 1 v1 (k + 1) (vs ++ [pv])) (gr1 : (Wb.alloc o).grownBy u1 lv.ownBlock) :
    u1.heap[lb]? = some (.cells #[lv] 37 (0, 0)) ∧ KeepsFrom B Wb (u1.setCell ⟨lb, 0, none⟩ v1) ∧ Kq B lb Wb (u1.setCell ⟨lb, 0, none⟩ v1) ∧ Pi w0 we lb B d (k + 1) (u1.setCell ⟨lb, 0, none⟩ v1) := by
  have hal := below_new Wb o
  have hownA := hown.alloc o
  have hrow := own_cells hownA
  have hlb : lb < Wb.heap.size := (Array.getElem?_eq_some_iff.1 hbx).1
  have hne : some lb ≠ lv.ownBlock := fun e => by have := (hrow lb e.symm).1; omega
  have hkb : u1.heap[lb]? = some (.cells #[lv] 37 (0, 0)) := (gr1.block lb (by simp; omega) hne).trans (blk_new hbx o)
  have hlen : vs.length = k := by have := hown.1; omega
  have hne1 : v1.ownBlock ≠ some lb := fun e => by have := (own_cells own1 lb e).1; omega
  have keepI : ∀ {n : Nat} {q : Value} {X : List Int}, Wb.ownsRow B 3 1 q n (X.map (Value.int .i64)) → (u1.setCell ⟨lb, 0, none⟩ v1).ownsRow B 3 1 q n (X.map (Value.int .i64)) := fun {n q X} h => by
    have h1 := (h.alloc o).kept gr1 (own_apart (h.alloc o) hownA (by decide))
    exact own_setc h1 lb 0 v1 (fun e => by have := (own_cells h1 lb e).1; omega)
  have hbw : Below w0 we (u1.setCell ⟨lb, 0, none⟩ v1) := ((bel.alloc (Nat.le_trans hw bel.size) o).grown gr1 (Nat.le_trans hw (bel.alloc (Nat.le_trans hw bel.size) o).size) (fun j e => by have := (hrow j e).1; omega)).setCell (by simpa using hlw) _
  refine ⟨hkb, (keeps_of hal).trans ((keeps_row gr1 (fun r e => by obtain ⟨_, cs, h⟩ := hrow r e; exact ⟨cs, _, _, h⟩)).trans (keeps_set _ _)), ⟨?_, ?_, ?_⟩, ⟨⟨v1, vs ++ [pv], ?_, own_setc own1 lb 0 v1 hne1, ?_⟩, hbw, ?_⟩⟩
  · have := hal.size; have := gr1.size; simp; omega
  · intro g hg hn
    rw [Below.heap_setCell u1 ⟨lb, 0, none⟩ v1 g hn, gr1.block g (by simp; omega) (fun e => by have := (hrow g e.symm).1; omega), hal.block g (by omega)]
  · intro g cs ty fz hb ht hg
    have hgl : g < Wb.heap.size := (Array.getElem?_eq_some_iff.1 hg).1
    rw [Below.heap_setCell u1 ⟨lb, 0, none⟩ v1 g (show g ≠ lb by omega), gr1.block g (by simp; omega) (fun e => by
      obtain ⟨_, cs', h⟩ := hrow g e.symm
      rw [hal.block g hgl, hg] at h
      injection h with h
      injection h with _ h _
      exact ht h), hal.block g hgl]
    exact hg
  · have := set_cells hkb 0 v1
    simpa using this
  · intro i hi
    by_cases e : i = k
    · subst e
      refine ⟨pv, by rw [List.getElem?_append_right (by omega), hlen]; simp, keepI hv⟩
    · obtain ⟨q, hq, h⟩ := hps i (by omega)
      exact ⟨q, by rw [List.getElem?_append_left (by omega)]; exact hq, keepI h⟩
  · have := hal.size; have := gr1.size; simp; omega
theorem lls_of {w : World} {B n : Nat} {A : Option Addr} {C : Nat} {vs : List Value} {d : List (List Int)} (h : w.ownsRow B 34 1 (.slice A n C) n vs) (hps : ∀ i, i < d.length → ∃ q, vs[i]? = some q ∧ w.ownsRow B 3 1 q (gdL d i).length ((gdL d i).map (Value.int .i64))) : LLS w A d := by
  intro i hi
  obtain ⟨q, e, hq⟩ := hps i hi
  obtain ⟨_, _, e2, _, _, hat⟩ := form_own h
  injection e2 with e2 _ _
  subst e2
  obtain ⟨g, rfl, _, hc⟩ := hat i q e
  obtain ⟨a, c, rfl, hin, _⟩ := InS.own hq
  exact ⟨g, 0, a, c, rfl, by rw [Nat.zero_add]; exact hc, hin⟩
/-- What Parts answers, E the error. -/
def PaR (w' : World) (L : List Pl) (X : List Int) (E : Int) (e : Ending) : Prop :=
  (E ≠ 0 ∧ e = .returned (.tuple #[.slice none 0 0, .int .i64 E])) ∨
  (E = 0 ∧ ∃ A C, e = .returned (.tuple #[.slice A (prt L X).length C, .int .i64 0]) ∧ LLS w' A (prt L X) ∧ (prt L X).length ≤ C ∧ C ≤ maxLen)
theorem own_no1 {B : Nat} : OwnFrom B (fun (_ : Nat) (_ : World) => False) := fun _ _ _ _ h _ _ => h
theorem allocs2' (W : World) (o0 o1 : Obj) {V : World} (hV : (W.alloc o0).alloc o1 = V) : Below W.heap.size W V ∧ V.heap.size = W.heap.size + 2 ∧ V.heap[W.heap.size]? = some o0 ∧ V.heap[W.heap.size + 1]? = some o1 := by
  subst hV
  have nb : ∀ (U : World) (k : Nat) (o : Obj), U.heap.size = k → (U.alloc o).heap[k]? = some o := fun U k o h => by subst h; exact World.alloc_heap_new U o
  exact ⟨((Below.refl _ W).alloc (Nat.le_refl _) _).alloc (by simp) _, by simp, blk_new (nb _ _ _ rfl) _, nb _ _ _ (by simp)⟩
set_option maxRecDepth 100000 in
set_option maxHeartbeats 4000000 in
theorem parts_0 (A : Option Addr) (C : Nat) (L : List Pl) (B : Option Addr) (D : Nat) (X : List Int) (hlen : X.length ≤ 9223372036854775807) (hI : ∀ k, k < X.length → I64 (gdI X k)) (E : Int) (hE : Sui plOk L X E) (h0 : E ≠ 0) (w : World) (hl : PlS w A L) (hx : InS w B X) :
    Calls Try.prog 15 #[.slice A L.length C, .slice B X.length D] w fun e_ w' => PaR w' L X E e_ ∧ Below w.heap.size w w' := by
  have CI := Lib.hid (fun W (h : PlS W A L) (h2 : InS W B X) => suit_is A C L B D X hlen hI E hE W h h2)
  have z0 : (E != 0) = true := by simp [h0]
  have H0 := Lib.hid h0
  clear hE hI h0
  have HL := Lib.hid hl
  clear hl
  have HX := Lib.hid hx
  clear hx
  go_enter Try.func15, Try.ntmps15
  go_wp2_with fail
  with_reducible refine (CI.out _ HL.out HX.out).mono ?_
  rintro e_ w1 ⟨hi, hb⟩
  have HB := Lib.hid hb
  clear hb
  rcases hi with ⟨_, rfl⟩ | ⟨h, _⟩
  rotate_left
  · exact absurd h H0.out
  go_wp2_with fail
  go_ret2
  exact ⟨.inl ⟨H0.out, rfl⟩, HB.out⟩
set_option maxRecDepth 100000 in
set_option maxHeartbeats 4000000 in
theorem parts_1 (A : Option Addr) (C : Nat) (L : List Pl) (B : Option Addr) (D : Nat) (X : List Int) (hlen : X.length ≤ 9223372036854775807) (hI : ∀ k, k < X.length → I64 (gdI X k)) (hE : Sui plOk L X 0) (w : World) (hl : PlS w A L) (hx : InS w B X) :
    Calls Try.prog 15 #[.slice A L.length C, .slice B X.length D] w fun e_ w' => PaR w' L X 0 e_ ∧ Below w.heap.size w w' := by
  have CI := Lib.hid (fun W (h : PlS W A L) (h2 : InS W B X) => suit_is A C L B D X hlen hI 0 hE W h h2)
  obtain ⟨hx3, hok, hall, hdx⟩ := hE.zero
  have hl3 := hok.few
  have HOK := Lib.hid hok.each
  have hsel := sel_len hok.dst hall hdx
  have hsort := sorted_ixs hok.dst hall hdx
  have HIL := Lib.hid (show (ixs L X).length = X.length by unfold ixs; simp)
  have HSR := Lib.hid hsort
  have HSL := Lib.hid hsel
  clear hE hI hok hall hdx hsel hsort
  have HL := Lib.hid hl
  have HX := Lib.hid hx
  clear hl hx
  refine (callsIn_wide (n := 8)).1 ?_
  refine callsIn_of_wp_marks Try.func15 rfl trivial ?_ rfl
  simp only [Try.ntmps15, List.size_toArray, List.length_cons, List.length_nil, Nat.reduceAdd, Nat.reduceSub, Array.replicate_succ, Array.replicate_zero, List.push_toArray, List.append_toArray, List.nil_append, List.cons_append]
  have hmx : Try.prog.follows .mixedOrders = true := by kernel_rfl
  obtain ⟨i0, hi0, hz0, hz1, hz2⟩ := info_of infoIS
  have z0 : ((0 : Int) != 0) = false := rfl
  gi_wp2_with fail
  refine ⟨trivial, (callsIn_wide.2 (CI.out _ HL.out HX.out)).mono ?_⟩
  rintro e w1 ⟨hi, hb⟩
  rcases hi with ⟨h, _⟩ | ⟨_, g, rfl, hg, hri⟩
  · exact absurd rfl h
  have HB := Lib.hid hb
  have HRI := Lib.hid hri
  clear CI HX hb hri
  gi_wp2_with fail
  refine ⟨trivial, (callsIn_wide.2 (sort_is g X.length (ixs L X) HIL.out (by omega) _ HRI.out.lt HRI.out)).mono ?_⟩
  rintro e w2 ⟨rfl, hin, hoth, hb2⟩
  rw [HSR.out] at hin
  have HIN := Lib.hid (show InS w2 (some ⟨g, 0, none⟩) (numN (sel L X)) from hin)
  have hgw : g < w2.heap.size := Nat.lt_of_lt_of_le HRI.out.lt hb2.size
  replace HB := Lib.hid (HB.out.trans (hb2.mono hg))
  clear HRI hin hoth hb2 HSR HIL
  have hn3 := below_new w2 (.cells #[.slice none 0 0] 37)
  have k3 : (w2.alloc (.cells #[.slice none 0 0] 37)).heap[w2.heap.size]? = some (.cells #[.slice none 0 0] 37 (0, 0)) := World.alloc_heap_new _ _
  gi_wp2_with fail
  generalize w2.alloc (.cells #[.slice none 0 0] 37) = w3 at *
  refine ⟨trivial, (callsIn_wide.2 (pts_any A (some ⟨g, 0, none⟩) L.length C X.length X.length w3)).mono ?_⟩
  rintro e w4 ⟨rfl, hw4⟩
  obtain ⟨hb4, hs4, k0, k1⟩ := allocs2' _ _ _ hw4.symm
  have hb24 := on_below hn3 hb4
  have hlb := HB.out.size
  have hlt3 : w2.heap.size < w3.heap.size := (Array.getElem?_eq_some_iff.1 k3).1
  have k4 := blk_on k3 hb4
  have HSQ := Lib.hid (parts_seq 7 (by omega) (w3.heap.size + 1) w3.heap.size w2.heap.size A C L (some ⟨g, 0, none⟩) X.length (sel L X) X.length HSL.out (fun i hi => by
      have h := sel_lt (List.getElem_mem hi)
      have e : gdN (sel L X) i = (sel L X)[i] := by unfold gdN; rw [List.getD_eq_getElem?_getD, List.getElem?_eq_getElem hi]; rfl
      rw [e]; exact h) hl3 (by rw [HSL.out]; exact hx3) HOK.out w4 (fun W' h => by
      have h2 : ∀ b, b < w2.heap.size → W'.heap[b]? = w2.heap[b]? := fun b hb => (h b (by omega) (by omega)).trans (hb24.block b hb)
      refine ⟨HL.out.same (fun b hb => (h2 b (by omega)).trans (HB.out.block b hb)), HIN.out.same h2, ?_, ?_⟩
      · rw [h _ (by omega) (by omega)]; exact k1
      · rw [h _ (by omega) (by omega)]; exact k0))
  have HP0 := Lib.hid (show Pi w.heap.size w w2.heap.size w4.heap.size (prt L X) 0 w4 from ⟨⟨_, [], k4, World.ownsRow_nil _ _ _ _, fun i hi => absurd hi (Nat.not_lt_zero i)⟩, on_below HB.out hb24, Nat.le_refl _⟩)
  have hlt4 : w2.heap.size < w4.heap.size := by omega
  have hww : w.heap.size ≤ w2.heap.size := hlb
  have hpl : (prt L X).length ≤ 300 := by
    have h1 := parts_len (selP L X)
    have e : (selP L X).length = X.length := by unfold selP; rw [List.length_map]; exact HSL.out
    unfold prt
    omega
  clear hw4 hb4 hs4 k0 k1 hb24 k3 k4 hn3 HOK HSL HIN HB HL hlb
  gi_wp2_with fail
  refine range_n (gf := 42) (lb := #[.pointer (some ⟨w3.heap.size + 1, 0, none⟩), .pointer (some ⟨w3.heap.size, 0, none⟩)]) rfl pts_enter HSQ.out (Below.refl _ _) (fun k args W e => by obtain ⟨_, v, e, _⟩ := e; rw [e]; rfl) Kq.trans (fun W l o o' hl h1 h2 => Kq.put o' hl h1 h2)
    (fun k W => Pi w.heap.size w w2.heap.size w4.heap.size (prt L X) k W) (fun _ _ => False) (Pi.own (by omega) (Nat.le_refl _)) own_no1 HP0.out ?round ?done ?stop
  case round =>
    rintro l k args W hl hk hI ⟨hk2, v, rfl, hv⟩
    have HI := Lib.hid hI
    have HV := Lib.hid hv
    have hpk : k < 300 := Nat.lt_of_lt_of_le hk hpl
    clear hI HSQ HP0 hv
    gi_wp2
    refine ⟨KeepsFrom.refl _ _, Kq.refl _, ?_⟩
    rintro o Wb ho hc hsome hg hoth
    have hrow : ∀ r, some l = some r → w.heap.size ≤ r ∧ ∃ o : Obj, W.heap[r]? = some o ∧ o.isCells = false := fun r e => by cases e; exact ⟨by omega, o, ho, hc⟩
    replace HI := Lib.hid (HI.out.row hg hrow (Nat.le_refl _))
    replace HV := Lib.hid (own_row HV.out hg (fun r e => (hrow r e).2))
    clear ho hc hsome hg hoth hrow
    obtain ⟨A1, C1, rfl, _⟩ := InS.own HV.out
    obtain ⟨lv, vs, hbx, hown, hps⟩ := HI.out.ex
    have HOW := Lib.hid hown
    have HPS := Lib.hid hps
    have HBX := Lib.hid hbx
    have t0 := blk_zero1 hbx
    have HBL := Lib.hid HI.out.bel
    have hsz := HI.out.size
    clear hown hps hbx HI
    have hm1 : k + 1 ≤ maxLen := by unfold maxLen; omega
    have hm2 : (k + 1) * 24 ≤ 140737488355328 := by omega
    gi_wp2_with (refine wpListIn_append_own _ rfl (.tmp 25) (.tmp 27) 37 rfl w4.heap.size 34 i0 _ 1 24 Try.underlying37 hi0 hz0 hz1 hz2 rfl (by decide) _ _ _ rfl (HOW.out.alloc _) ⟨Wb.heap.size, 0, none⟩ 1 1 [.slice A1 (gdL (prt L X) k).length C1] rfl rfl (new_s Wb _ 34) one_s hm1 hm2 (Nat.le_trans hsz (below_new _ _).size) ?_; intro v1 u1 own1 gr1 nil1; obtain ⟨A2, C2, e2, _⟩ := form_own own1; subst e2; obtain ⟨hkb, hkf, hkq, hpi⟩ := Pi.step HBX.out HOW.out HPS.out HV.out HBL.out hsz (Nat.le_refl _) hww hlt4 _ own1 gr1; have HKF := Lib.hid hkf; have HKQ := Lib.hid hkq; have HPI := Lib.hid hpi; have t1 := blk_zero1 hkb; have ft1 : u1.frozen? ⟨w2.heap.size, 0, none⟩ = false := (by simp [World.frozen?, hkb]); clear own1 gr1 nil1 hkb hkf hkq hpi t0)
    exact ⟨HKF.out, HKQ.out, HPI.out⟩
  case done =>
    rintro D V hD hI hK
    obtain ⟨lv, vs, hbx, hown, hps⟩ := hI.ex
    have t0 := blk_zero1 hbx
    have hrw : ∀ r, some D = some r → w.heap.size ≤ r ∧ ∃ o : Obj, V.heap[r]? = some o ∧ o.isCells = false := fun r e => by cases e; exact ⟨by omega, _, hK, rfl⟩
    have hq := hI.row (grownBy_putObj' V D (.deferred none)) hrw (Nat.le_refl _)
    have how2 := own_row hown (grownBy_putObj' V D (.deferred none)) (fun r e => (hrw r e).2)
    have hps2 : ∀ i, i < (prt L X).length → ∃ q, vs[i]? = some q ∧ (V.putObj D (.deferred none)).ownsRow w4.heap.size 3 1 q (gdL (prt L X) i).length ((gdL (prt L X) i).map (Value.int .i64)) := fun i hi => by
      obtain ⟨q, e, h⟩ := hps i hi
      exact ⟨q, e, own_row h (grownBy_putObj' V D (.deferred none)) (fun r e => (hrw r e).2)⟩
    obtain ⟨A9, C9, rfl, hc1, hc2, hat⟩ := form_own hown
    have HF := Lib.hid hq.bel
    have HS := Lib.hid (lls_of how2 hps2)
    have HC9 := Lib.hid (And.intro hc1 hc2)
    clear hI hq HSQ HP0 hown hps how2 hps2 hrw hbx hat hc1 hc2
    gi_wp2
    refine ⟨by simp, .inl ⟨_, _, rfl, run_takeDeferred hK, ?_⟩⟩
    exact ⟨.tuple #[.slice A9 (parts (ath L (sel L X))).length C9, .int .i64 0], by simp [results, Try.results15, go_sem], .inr ⟨rfl, A9, C9, rfl, HS.out, HC9.out⟩, HF.out⟩
  case stop =>
    rintro D k V hD hk hI
    exact hI.elim
end Go.Proofs.Ytgikpcoaennkgaa
