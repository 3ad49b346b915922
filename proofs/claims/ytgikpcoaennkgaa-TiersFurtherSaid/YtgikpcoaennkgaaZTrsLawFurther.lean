/-
  TiersFurther.
-/
import Derived.Test.YtgikpcoaennkgaaZTrsX
import Derived.Test.YtgikpcoaennkgaaRows
import Derived.ProofKit
import Derived.OpenShut
import Derived.Deep.DeepHandedRow
import Derived.Deep.DeepWitnessRowRef
import Derived.MakeChecks
import Derived.Deep.DeepCutAuto
namespace Go.Proofs.Ytgikpcoaennkgaa.LawFurther
open Go.RowKit Go.Sort
open Go.RowKit (Below)
set_option linter.unusedVariables false
set_option linter.unusedSimpArgs false
attribute [local go_sem] Oper.semAt_some

/-! ### What the bundles have shaken off -/
theorem ones_k (k : IntKind) (xs : List Int) : ∀ u ∈ xs.map (Value.int k), u.oneCell' = true := by
  intro u hu
  obtain ⟨x, _, rfl⟩ := List.mem_map.1 hu
  rfl
section
variable {P : Program} (w : World)
/-- An append of the numbers that a slice reads as, nil among them. -/
theorem wpList_append_sk {ops : Array Oper} {rest : List Oper} {o : Oper} {a : Act} {Q : Exit → Act → World → Prop} (hgd : o.guard = none) (s x : Operand) (t : TypeId)
    (ho : o.op = .call { callee := .builtin .append, args := #[s, x], argTypes := #[t, t] })
    (base : Nat) (e : TypeId) (i : TypeInfo) (k : IntKind) (bytes : Nat) (ht : P.underlying t = some (.slice e)) (hi : P.info? e = some i) (hz : i.zero = some (.int k 0))
    (hsize : i.size = 1) (hby : i.bytes = bytes)
    (v : Value) (n : Nat) (xs : List Value) (hs : a.eval s = v) (hown : w.ownsRow base e 1 v n xs)
    (A : Option Addr) (c : Nat) (news : List Int) (hx : a.eval x = .slice A news.length c) (hr : Sk k w A news)
    (h63 : n + news.length ≤ maxLen) (hbytes : (n + news.length) * bytes ≤ 140737488355328) (hbase : base ≤ w.heap.size)
    (h : ∀ v' w', w'.ownsRow base e 1 v' (n + news.length) (xs ++ news.map (Value.int k)) → w.grownBy w' v.ownBlock → (v'.ownBlock = v.ownBlock ∨ v'.ownBlock = some w.heap.size) → wpList P ops Q rest (a.put o.dst v') w') : wpList P ops Q (o :: rest) a w := by
  refine wpList_plain hgd fun K hK => ?_
  have hrun : ∃ v' w', (Builtin.append_ #[t, t] o.type #[v, .slice A news.length c]).run P w = .ok v' w' ∧ w'.ownsRow base e 1 v' (n + news.length) (xs ++ news.map (Value.int k)) ∧ w.grownBy w' v.ownBlock ∧ (v'.ownBlock = v.ownBlock ∨ v'.ownBlock = some w.heap.size) := by
    cases A with
    | none =>
      have hn : news = [] := by
        cases news with
        | nil => rfl
        | cons p r =>
          obtain ⟨_, _, e0, _⟩ := hr 0 (by simp)
          cases e0
      subst hn
      refine ⟨v, w, ?_, by simpa using hown, World.grownBy.refl w _, .inl rfl⟩
      rcases hown.2 with ⟨rfl, rfl⟩ | ⟨g, cap, cur, rfl, _, _, hnc, _⟩
      · simp [Builtin.append_, run_underlying ht, sizeOf, typeInfo, hi, Builtin.lenOf, Builtin.firstCells]
      · simp [Builtin.append_, run_underlying ht, sizeOf, typeInfo, hi, Builtin.lenOf, Builtin.firstCells, hnc, storeCells]
    | some ad =>
      obtain ⟨v', w', h1, h2, h3, _, h5⟩ := run_append_own_at (P := P) w base t o.type e i (.int k 0) 1 bytes ht hi hz hsize hby rfl (by omega) v n xs hown ad news.length c (news.map (Value.int k)) (by simp) hr.cells (ones_k k news) h63 hbytes hbase
      exact ⟨v', w', h1, h2, h3, h5⟩
  obtain ⟨v', w', hr', h2, h3, h4⟩ := hrun
  unfold Oper.wp execOp
  simp only [ho, resolve, invoke, builtin, Sem.run_bind, Sem.run_pure, Result.andThen_ok, List.map_toArray, List.map_cons, List.map_nil, hs, hx, hr']
  exact hK _ _ (h v' w' h2 h3 h4)
end
theorem own_lit (w : World) (base : Nat) (e : TypeId) (size : Nat) (hb : base ≤ w.heap.size) : (w.alloc (.cells #[] e)).ownsRow base e size (.slice (some ⟨w.heap.size, 0, none⟩) 0 0) 0 [] :=
  ⟨by simp, .inr ⟨w.heap.size, 0, #[], rfl, hb, World.alloc_heap_new w _, Nat.le_refl _, Nat.zero_le _, by simp, by simp⟩⟩
theorem app_bel' {V wr u : World} {o : Obj} {e size n : Nat} {v : Value} {xs : List Value} (hb : Below V.heap.size V wr) (own : wr.ownsRow V.heap.size e size v n xs) (gr : (wr.alloc o).grownBy u v.ownBlock) : Below V.heap.size V u :=
  (on_below hb (below_new wr o)).grown gr (on_below hb (below_new wr o)).size fun k e => (own.lt k e).1
theorem sui_snoc {ok : Pl → Bool} {L : List Pl} {X : List Int} {x : Int} (h : Sui ok L (X ++ [x]) 0) : Sui ok L X 0 ∧ ixP L x < L.length := by
  obtain ⟨h1, h2, h3, h4⟩ := h.zero
  rw [List.length_append] at h1 h3 h4
  simp only [List.length_cons, List.length_nil, Nat.zero_add] at h1 h3 h4
  refine ⟨.inr (.inr (.inr (.inr ⟨by omega, h2, (fun k hk => ?_), (fun i j hi hj => ?_), rfl⟩))), ?_⟩
  · have := h3 k (by omega)
    rwa [gdI_app hk] at this
  · have := h4 i j hi (by omega)
    rwa [gdI_app (show i < X.length by omega), gdI_app hj] at this
  · have := h3 X.length (by omega)
    rwa [gdI_last] at this
theorem gdS_at {L : List Pl} {X : List Int} {m : Nat} (h : m < (selP L X).length) : ∃ j, j < L.length ∧ gdP (selP L X) m = gdP L j := by
  have h2 : m < (sel L X).length := by unfold selP at h; rwa [List.length_map] at h
  exact ⟨(sel L X)[m], sel_lt (List.getElem_mem h2), gdP_map h2⟩
theorem part_at {L : List Pl} {X : List Int} {i k : Nat} (hi : i < (prt L X).length) (hk : k < (gdL (prt L X) i).length) :
    ∃ j, j < L.length ∧ gdI (gdL (prt L X) i) k = (gdP L j).id ∧ gdP (selP L X) (stt (prt L X) i + k) = gdP L j := by
  have F := parts_fin (selP L X)
  obtain ⟨j, hj, e⟩ := gdS_at (F.lt hi hk)
  exact ⟨j, hj, ((F.part i hi k hk).1.trans (congrArg Pl.id e)), e⟩
theorem b1_true : b1 true = 1 := rfl
theorem b1_false : b1 false = 0 := rfl
theorem ins_sk {w : World} {A : Option Addr} {X : List Int} (h : InS w A X) : Sk .i64 w A X := h
set_option maxRecDepth 100000 in
set_option maxHeartbeats 4000000 in
theorem fur_0 (lA : Option Addr) (lC : Nat) (l : List Pl) (xA : Option Addr) (xC : Nat) (X : List Int) (x : Int) (h : ¬ l.length ≤ 40) (w : World) (hl : PlS w lA l) (hx : InS w xA X) :
    Calls Try.prog 7 #[.slice lA l.length lC, .slice xA X.length xC, .int .i64 x] w fun e_ w' => e_ = .returned (.bool true) ∧ Below w.heap.size w w' := by
  have CF := Lib.hid (few12_is lA lC l false (by simp; omega))
  have HL := Lib.hid hl
  have HX := Lib.hid hx
  clear hl hx
  have HB := Lib.hid (Below.refl w.heap.size w)
  go_enter Try.func7, Try.ntmps7
  go_wp2_with fail
  with_reducible refine (head12_any _).mono ?_
  rintro e_ w1 ⟨rfl, hb⟩
  replace HB := Lib.hid (on_below HB.out hb)
  replace HL := Lib.hid (HL.out.below hb)
  replace HX := Lib.hid (HX.out.below hb)
  clear hb
  go_wp2_with fail
  with_reducible refine (CF.out _).mono ?_
  rintro e_ w2 ⟨rfl, hb⟩
  replace HB := Lib.hid (on_below HB.out hb)
  replace HL := Lib.hid (HL.out.below hb)
  replace HX := Lib.hid (HX.out.below hb)
  clear hb
  go_wp2_with fail
  go_ret
  exact ⟨rfl, HB.out⟩
set_option maxRecDepth 100000 in
set_option maxHeartbeats 4000000 in
theorem fur_1 (lA : Option Addr) (lC : Nat) (l : List Pl) (xA : Option Addr) (xC : Nat) (X : List Int) (x : Int) (h : l.length ≤ 40) (h2 : ¬ X.length ≤ 12) (w : World) (hl : PlS w lA l) (hx : InS w xA X) :
    Calls Try.prog 7 #[.slice lA l.length lC, .slice xA X.length xC, .int .i64 x] w fun e_ w' => e_ = .returned (.bool true) ∧ Below w.heap.size w w' := by
  have CF := Lib.hid (few12_is lA lC l true (by simp; omega))
  have z0 : decide ((12 : Int) < (X.length : Int)) = true := decide_eq_true (by omega)
  have HL := Lib.hid hl
  have HX := Lib.hid hx
  clear hl hx
  have HB := Lib.hid (Below.refl w.heap.size w)
  go_enter Try.func7, Try.ntmps7
  go_wp2_with fail
  with_reducible refine (head12_any _).mono ?_
  rintro e_ w1 ⟨rfl, hb⟩
  replace HB := Lib.hid (on_below HB.out hb)
  replace HL := Lib.hid (HL.out.below hb)
  replace HX := Lib.hid (HX.out.below hb)
  clear hb
  go_wp2_with fail
  with_reducible refine (CF.out _).mono ?_
  rintro e_ w2 ⟨rfl, hb⟩
  replace HB := Lib.hid (on_below HB.out hb)
  replace HL := Lib.hid (HL.out.below hb)
  replace HX := Lib.hid (HX.out.below hb)
  clear hb
  go_wp2_with fail
  go_ret
  exact ⟨rfl, HB.out⟩
set_option maxRecDepth 100000 in
set_option maxHeartbeats 4000000 in
theorem fur_2 (lA : Option Addr) (lC : Nat) (l : List Pl) (xA : Option Addr) (xC : Nat) (X : List Int) (x : Int) (h : l.length ≤ 40) (h2 : X.length ≤ 12) (hm : x ∈ X) (w : World) (hl : PlS w lA l) (hx : InS w xA X) :
    Calls Try.prog 7 #[.slice lA l.length lC, .slice xA X.length xC, .int .i64 x] w fun e_ w' => e_ = .returned (.bool true) ∧ Below w.heap.size w w' := by
  have CF := Lib.hid (few12_is lA lC l true (by simp; omega))
  have z0 : decide ((12 : Int) < (X.length : Int)) = false := decide_eq_false (by omega)
  have CH := Lib.hid (fun W (h3 : InS W xA X) => qho_is xA xC X x (by omega) true (by simp [hm]) W h3)
  clear hm
  have HL := Lib.hid hl
  have HX := Lib.hid hx
  clear hl hx
  have HB := Lib.hid (Below.refl w.heap.size w)
  go_enter Try.func7, Try.ntmps7
  go_wp2_with fail
  with_reducible refine (head12_any _).mono ?_
  rintro e_ w1 ⟨rfl, hb⟩
  replace HB := Lib.hid (on_below HB.out hb)
  replace HL := Lib.hid (HL.out.below hb)
  replace HX := Lib.hid (HX.out.below hb)
  clear hb
  go_wp2_with fail
  with_reducible refine (CF.out _).mono ?_
  rintro e_ w2 ⟨rfl, hb⟩
  replace HB := Lib.hid (on_below HB.out hb)
  replace HL := Lib.hid (HL.out.below hb)
  replace HX := Lib.hid (HX.out.below hb)
  clear hb
  go_wp2_with fail
  with_reducible refine (CH.out _ HX.out).mono ?_
  rintro e_ w3 ⟨rfl, hb⟩
  replace HB := Lib.hid (on_below HB.out hb)
  replace HL := Lib.hid (HL.out.below hb)
  replace HX := Lib.hid (HX.out.below hb)
  clear hb
  go_wp2_with fail
  go_ret
  exact ⟨rfl, HB.out⟩
set_option maxRecDepth 100000 in
set_option maxHeartbeats 8000000 in
theorem fur_3 (lA : Option Addr) (lC : Nat) (l : List Pl) (xA : Option Addr) (xC : Nat) (X : List Int) (x : Int) (h : l.length ≤ 40) (h2 : X.length ≤ 12) (hm : x ∉ X) (hfit : ∀ k, k < X.length → I64 (gdI X k)) (ix : I64 x) (E : Int) (F : Int) (hE : Sui plOk l X E) (hF : Sui plOk l (X ++ [x]) F) (nE : E ≠ 0) (nF : F ≠ 0) (w : World) (hl : PlS w lA l) (hx : InS w xA X) :
    Calls Try.prog 7 #[.slice lA l.length lC, .slice xA X.length xC, .int .i64 x] w fun e_ w' => e_ = .returned (.bool true) ∧ Below w.heap.size w w' := by
  have CF := Lib.hid (few12_is lA lC l true (by simp; omega))
  have z0 : decide ((12 : Int) < (X.length : Int)) = false := decide_eq_false (by omega)
  have CH := Lib.hid (fun W (h3 : InS W xA X) => qho_is xA xC X x (by omega) false (by simp [hm]) W h3)
  have hl2 : (X ++ [x]).length = X.length + 1 := by simp
  have hfit2 : ∀ k, k < (X ++ [x]).length → I64 (gdI (X ++ [x]) k) := fun k hk => by
    by_cases e : k < X.length
    · rw [gdI_app e]; exact hfit k e
    · obtain rfl : k = X.length := by omega
      rw [gdI_last]; exact ix
  have CX := Lib.hid (fun W (h1 : PlS W lA l) (h3 : InS W xA X) => parts_is lA lC l xA xC X (by omega) hfit E hE W h1 h3)
  have CY := Lib.hid (fun W (B : Option Addr) (D : Nat) (h1 : PlS W lA l) (h3 : InS W B (X ++ [x])) => parts_is lA lC l B D (X ++ [x]) (by omega) hfit2 F hF W h1 h3)
  have zE : (E != 0) = true := by simp [nE]
  have zF : (F != 0) = true := by simp [nF]
  have HE := Lib.hid nE
  have HF := Lib.hid nF
  obtain ⟨i0, hi0, hz0, hz1, hz2⟩ := info_of infoInt
  clear hm hfit hfit2 hE hF hl2 nE nF
  have HL := Lib.hid hl
  have HX := Lib.hid hx
  clear hl hx
  have HB := Lib.hid (Below.refl w.heap.size w)
  go_enter Try.func7, Try.ntmps7
  go_wp2_with fail
  with_reducible refine (head12_any _).mono ?_
  rintro e_ w1 ⟨rfl, hb⟩
  replace HB := Lib.hid (on_below HB.out hb)
  replace HL := Lib.hid (HL.out.below hb)
  replace HX := Lib.hid (HX.out.below hb)
  clear hb
  go_wp2_with fail
  with_reducible refine (CF.out _).mono ?_
  rintro e_ w2 ⟨rfl, hb⟩
  replace HB := Lib.hid (on_below HB.out hb)
  replace HL := Lib.hid (HL.out.below hb)
  replace HX := Lib.hid (HX.out.below hb)
  clear hb
  go_wp2_with fail
  with_reducible refine (CH.out _ HX.out).mono ?_
  rintro e_ w3 ⟨rfl, hb⟩
  replace HB := Lib.hid (on_below HB.out hb)
  replace HL := Lib.hid (HL.out.below hb)
  replace HX := Lib.hid (HX.out.below hb)
  clear hb
  go_wp2_with fail
  with_reducible refine (CX.out _ HL.out HX.out).mono ?_
  rintro e_ w31 ⟨hp, hb⟩
  obtain rfl : e_ = .returned (.tuple #[.slice none 0 0, .int .i64 E]) := by
    rcases hp with ⟨_, h⟩ | ⟨h0, _⟩
    · exact h
    · exact absurd h0 HE.out
  clear hp
  replace HB := Lib.hid (on_below HB.out hb)
  replace HL := Lib.hid (HL.out.below hb)
  replace HX := Lib.hid (HX.out.below hb)
  clear hb
  go_upto_region 5 with fail
  have own0 := own_lit w31 w31.heap.size 3 1 (Nat.le_refl _)
  have hbL := below_new w31 (.cells #[] 3)
  have HSK := Lib.hid (ins_sk (HX.out.below hbL))
  have m1_ : 0 + X.length ≤ maxLen := by unfold maxLen; omega
  have m2_ : (0 + X.length) * 8 ≤ 140737488355328 := by omega
  have m3_ : X.length + 1 ≤ maxLen := by unfold maxLen; omega
  have m4_ : (X.length + 1) * 8 ≤ 140737488355328 := by omega
  go_wp2_with (first | (at_builtin; refine wpList_append_sk _ rfl (.tmp 43) (.tmp 44) 34 rfl w31.heap.size 3 i0 .i64 8 Try.underlying34 hi0 hz0 hz1 hz2 _ 0 [] rfl own0 xA xC X rfl HSK.out m1_ m2_ hbL.size ?_; intro v1 u1 own1_ gr1 nn1; clear nn1; have hb1 := app_below hbL hbL.size own0 (Nat.le_refl _) gr1; have own1 : u1.ownsRow w31.heap.size 3 1 v1 X.length (X.map (Value.int .i64)) := (by simpa using own1_); clear gr1 own1_) | (at_builtin; refine wpList_append_own _ rfl (.tmp 45) (.tmp 47) 34 rfl w31.heap.size 3 i0 (.int .i64 0) 1 8 Try.underlying34 hi0 hz0 hz1 hz2 rfl (by decide) _ _ _ rfl (own1.alloc _) ⟨u1.heap.size, 0, none⟩ 1 1 [.int .i64 x] rfl rfl (new_k _ _ _) one_k m3_ m4_ (by have := hb1.size; simp <;> omega) ?_; intro v2 u2 own2_ gr2 nn2; clear nn2; have hb := app_bel' hb1 own1 gr2; have own2 := snoc_own own2_ rfl rfl; clear gr2 own2_))
  obtain ⟨yA, yC, rfl, hin, _, _, _, _⟩ := InS.own own2
  clear own0 own1 own2 hbL hb1 HSK m1_ m2_ m3_ m4_
  replace HB := Lib.hid (on_below HB.out hb)
  replace HL := Lib.hid (HL.out.below hb)
  replace HX := Lib.hid (HX.out.below hb)
  clear hb
  have HI := Lib.hid hin
  clear hin
  with_reducible refine (CY.out _ _ _ HL.out HI.out).mono ?_
  rintro e_ w32 ⟨hp, hb⟩
  obtain rfl : e_ = .returned (.tuple #[.slice none 0 0, .int .i64 F]) := by
    rcases hp with ⟨_, h⟩ | ⟨h0, _⟩
    · exact h
    · exact absurd h0 HF.out
  clear hp
  replace HB := Lib.hid (on_below HB.out hb)
  replace HL := Lib.hid (HL.out.below hb)
  replace HX := Lib.hid (HX.out.below hb)
  replace HI := Lib.hid (HI.out.below hb)
  clear hb
  go_wp2_with fail
  go_ret
  exact ⟨rfl, HB.out⟩
set_option maxRecDepth 100000 in
set_option maxHeartbeats 8000000 in
theorem fur_4 (lA : Option Addr) (lC : Nat) (l : List Pl) (xA : Option Addr) (xC : Nat) (X : List Int) (x : Int) (h : l.length ≤ 40) (h2 : X.length ≤ 12) (hm : x ∉ X) (hfit : ∀ k, k < X.length → I64 (gdI X k)) (ix : I64 x) (F : Int) (hE : Sui plOk l X 0) (hF : Sui plOk l (X ++ [x]) F) (nF : F ≠ 0) (w : World) (hl : PlS w lA l) (hx : InS w xA X) :
    Calls Try.prog 7 #[.slice lA l.length lC, .slice xA X.length xC, .int .i64 x] w fun e_ w' => e_ = .returned (.bool true) ∧ Below w.heap.size w w' := by
  have CF := Lib.hid (few12_is lA lC l true (by simp; omega))
  have z0 : decide ((12 : Int) < (X.length : Int)) = false := decide_eq_false (by omega)
  have CH := Lib.hid (fun W (h3 : InS W xA X) => qho_is xA xC X x (by omega) false (by simp [hm]) W h3)
  have hl2 : (X ++ [x]).length = X.length + 1 := by simp
  have hfit2 : ∀ k, k < (X ++ [x]).length → I64 (gdI (X ++ [x]) k) := fun k hk => by
    by_cases e : k < X.length
    · rw [gdI_app e]; exact hfit k e
    · obtain rfl : k = X.length := by omega
      rw [gdI_last]; exact ix
  have CX := Lib.hid (fun W (h1 : PlS W lA l) (h3 : InS W xA X) => parts_is lA lC l xA xC X (by omega) hfit 0 hE W h1 h3)
  have CY := Lib.hid (fun W (B : Option Addr) (D : Nat) (h1 : PlS W lA l) (h3 : InS W B (X ++ [x])) => parts_is lA lC l B D (X ++ [x]) (by omega) hfit2 F hF W h1 h3)
  have zF : (F != 0) = true := by simp [nF]
  have HF := Lib.hid nF
  obtain ⟨i0, hi0, hz0, hz1, hz2⟩ := info_of infoInt
  clear hm hfit hfit2 hE hF hl2 nF
  have HL := Lib.hid hl
  have HX := Lib.hid hx
  clear hl hx
  have HB := Lib.hid (Below.refl w.heap.size w)
  go_enter Try.func7, Try.ntmps7
  go_wp2_with fail
  with_reducible refine (head12_any _).mono ?_
  rintro e_ w1 ⟨rfl, hb⟩
  replace HB := Lib.hid (on_below HB.out hb)
  replace HL := Lib.hid (HL.out.below hb)
  replace HX := Lib.hid (HX.out.below hb)
  clear hb
  go_wp2_with fail
  with_reducible refine (CF.out _).mono ?_
  rintro e_ w2 ⟨rfl, hb⟩
  replace HB := Lib.hid (on_below HB.out hb)
  replace HL := Lib.hid (HL.out.below hb)
  replace HX := Lib.hid (HX.out.below hb)
  clear hb
  go_wp2_with fail
  with_reducible refine (CH.out _ HX.out).mono ?_
  rintro e_ w3 ⟨rfl, hb⟩
  replace HB := Lib.hid (on_below HB.out hb)
  replace HL := Lib.hid (HL.out.below hb)
  replace HX := Lib.hid (HX.out.below hb)
  clear hb
  go_wp2_with fail
  with_reducible refine (CX.out _ HL.out HX.out).mono ?_
  rintro e_ w31 ⟨hp, hb⟩
  obtain ⟨p1A, p1C, rfl, hq, _, _⟩ : ∃ A C, e_ = .returned (.tuple #[.slice A (prt l X).length C, .int .i64 0]) ∧ LLS w31 A (prt l X) ∧ (prt l X).length ≤ C ∧ C ≤ maxLen := by
    rcases hp with ⟨h0, _⟩ | ⟨_, h⟩
    · exact absurd rfl h0
    · exact h
  have HP1 := Lib.hid hq
  clear hq hp
  replace HB := Lib.hid (on_below HB.out hb)
  replace HL := Lib.hid (HL.out.below hb)
  replace HX := Lib.hid (HX.out.below hb)
  clear hb
  go_upto_region 5 with fail
  have own0 := own_lit w31 w31.heap.size 3 1 (Nat.le_refl _)
  have hbL := below_new w31 (.cells #[] 3)
  have HSK := Lib.hid (ins_sk (HX.out.below hbL))
  have m1_ : 0 + X.length ≤ maxLen := by unfold maxLen; omega
  have m2_ : (0 + X.length) * 8 ≤ 140737488355328 := by omega
  have m3_ : X.length + 1 ≤ maxLen := by unfold maxLen; omega
  have m4_ : (X.length + 1) * 8 ≤ 140737488355328 := by omega
  go_wp2_with (first | (at_builtin; refine wpList_append_sk _ rfl (.tmp 43) (.tmp 44) 34 rfl w31.heap.size 3 i0 .i64 8 Try.underlying34 hi0 hz0 hz1 hz2 _ 0 [] rfl own0 xA xC X rfl HSK.out m1_ m2_ hbL.size ?_; intro v1 u1 own1_ gr1 nn1; clear nn1; have hb1 := app_below hbL hbL.size own0 (Nat.le_refl _) gr1; have own1 : u1.ownsRow w31.heap.size 3 1 v1 X.length (X.map (Value.int .i64)) := (by simpa using own1_); clear gr1 own1_) | (at_builtin; refine wpList_append_own _ rfl (.tmp 45) (.tmp 47) 34 rfl w31.heap.size 3 i0 (.int .i64 0) 1 8 Try.underlying34 hi0 hz0 hz1 hz2 rfl (by decide) _ _ _ rfl (own1.alloc _) ⟨u1.heap.size, 0, none⟩ 1 1 [.int .i64 x] rfl rfl (new_k _ _ _) one_k m3_ m4_ (by have := hb1.size; simp <;> omega) ?_; intro v2 u2 own2_ gr2 nn2; clear nn2; have hb := app_bel' hb1 own1 gr2; have own2 := snoc_own own2_ rfl rfl; clear gr2 own2_))
  obtain ⟨yA, yC, rfl, hin, _, _, _, _⟩ := InS.own own2
  clear own0 own1 own2 hbL hb1 HSK m1_ m2_ m3_ m4_
  replace HB := Lib.hid (on_below HB.out hb)
  replace HL := Lib.hid (HL.out.below hb)
  replace HX := Lib.hid (HX.out.below hb)
  replace HP1 := Lib.hid (HP1.out.below hb)
  clear hb
  have HI := Lib.hid hin
  clear hin
  with_reducible refine (CY.out _ _ _ HL.out HI.out).mono ?_
  rintro e_ w32 ⟨hp, hb⟩
  obtain rfl : e_ = .returned (.tuple #[.slice none 0 0, .int .i64 F]) := by
    rcases hp with ⟨_, h⟩ | ⟨h0, _⟩
    · exact h
    · exact absurd h0 HF.out
  clear hp
  replace HB := Lib.hid (on_below HB.out hb)
  replace HL := Lib.hid (HL.out.below hb)
  replace HX := Lib.hid (HX.out.below hb)
  replace HP1 := Lib.hid (HP1.out.below hb)
  replace HI := Lib.hid (HI.out.below hb)
  clear hb
  go_wp2_with fail
  go_ret
  exact ⟨rfl, HB.out⟩
set_option maxRecDepth 100000 in
set_option maxHeartbeats 8000000 in
theorem fur_5 (lA : Option Addr) (lC : Nat) (l : List Pl) (xA : Option Addr) (xC : Nat) (X : List Int) (x : Int) (h : l.length ≤ 40) (h2 : X.length ≤ 12) (hm : x ∉ X) (hfit : ∀ k, k < X.length → I64 (gdI X k)) (ix : I64 x) (hE : Sui plOk l X 0) (hF : Sui plOk l (X ++ [x]) 0) (hid : ∀ k, k < l.length → I64 (gdP l k).id) (w : World) (hl : PlS w lA l) (hx : InS w xA X) :
    Calls Try.prog 7 #[.slice lA l.length lC, .slice xA X.length xC, .int .i64 x] w fun e_ w' => e_ = .returned (.bool true) ∧ Below w.heap.size w w' := by
  have CF := Lib.hid (few12_is lA lC l true (by simp; omega))
  have z0 : decide ((12 : Int) < (X.length : Int)) = false := decide_eq_false (by omega)
  have CH := Lib.hid (fun W (h3 : InS W xA X) => qho_is xA xC X x (by omega) false (by simp [hm]) W h3)
  have hl2 : (X ++ [x]).length = X.length + 1 := by simp
  have hfit2 : ∀ k, k < (X ++ [x]).length → I64 (gdI (X ++ [x]) k) := fun k hk => by
    by_cases e : k < X.length
    · rw [gdI_app e]; exact hfit k e
    · obtain rfl : k = X.length := by omega
      rw [gdI_last]; exact ix
  have CX := Lib.hid (fun W (h1 : PlS W lA l) (h3 : InS W xA X) => parts_is lA lC l xA xC X (by omega) hfit 0 hE W h1 h3)
  have CY := Lib.hid (fun W (B : Option Addr) (D : Nat) (h1 : PlS W lA l) (h3 : InS W B (X ++ [x])) => parts_is lA lC l B D (X ++ [x]) (by omega) hfit2 0 hF W h1 h3)
  obtain ⟨i0, hi0, hz0, hz1, hz2⟩ := info_of infoInt
  obtain ⟨_, hxi⟩ := sui_snoc hF
  have hok := hE.zero.2.1
  have hfs := further_sel (ris_of hok.rise) hok.dst hm hxi
  have hdl := parts_len (selP l X)
  have hsl : (selP l X).length = X.length := by unfold selP; rw [List.length_map]; exact sel_len hok.dst hE.zero.2.2.1 hE.zero.2.2.2
  have hpl : ∀ i, i < (prt l X).length → (gdL (prt l X) i).length ≤ 12 := fun i hi => by have := part_len (S := selP l X) hi; show (gdL (parts (selP l X)) i).length ≤ _; omega
  have hd12 : (prt l X).length ≤ 12 := by show (parts (selP l X)).length ≤ _; omega
  have CB := Lib.hid (fun i (hi : i < (prt l X).length) k (hk : k < (gdL (prt l X) i).length) W (h1 : PlS W lA l) => by
    obtain ⟨j, hj, e1, e2⟩ := part_at hi hk
    exact tbes_is lA lC l (gdI (gdL (prt l X) i) k) x (by rw [e1]; exact hid j hj) ix (nxt (gdP (selP l X) (stt (prt l X) i + k)) (gdP l (ixP l x))) 0 (.inr (.inr ⟨hok, by rw [e1, ixP_at hok.dst hj]; exact hj, hxi, by rw [e1, e2, ixP_at hok.dst hj], rfl⟩)) W h1)
  have HTL := Lib.hid (tch_le (selP l X) (prt l X) (gdP l (ixP l x)))
  have HNS := Lib.hid (nea_succ (selP l X) (prt l X) (gdP l (ixP l x)))
  have HTS := Lib.hid (show ∀ i, tch (selP l X) (prt l X) (gdP l (ixP l x)) (i + 1) = tch (selP l X) (prt l X) (gdP l (ixP l x)) i + b1 (nea (selP l X) (prt l X) (gdP l (ixP l x)) i (gdL (prt l X) i).length) from fun i => rfl)
  have HN0 := Lib.hid (show ∀ i, nea (selP l X) (prt l X) (gdP l (ixP l x)) i 0 = false from fun i => by unfold nea; simp)
  have HT0 := Lib.hid (show ∀ n : Nat, n = 0 → tch (selP l X) (prt l X) (gdP l (ixP l x)) n = 0 from fun n e => by subst e; rfl)
  clear hdl hsl hxi hok hE hF hm hfit hfit2 hl2
  generalize tch (selP l X) (prt l X) (gdP l (ixP l x)) = tc at *
  generalize nea (selP l X) (prt l X) (gdP l (ixP l x)) = ne at *
  skip
  generalize hm_ : (prt l (X ++ [x])) = D2 at *
  generalize hD : prt l X = D at *
  have HD2 := Lib.hid hm_
  have HD := Lib.hid hD
  clear hD
  have HFS := Lib.hid hfs
  have HPL := Lib.hid hpl
  clear hfs hpl hid hm_
  have HL := Lib.hid hl
  have HX := Lib.hid hx
  clear hl hx
  have HB := Lib.hid (Below.refl w.heap.size w)
  go_enter Try.func7, Try.ntmps7
  go_wp2_with fail
  with_reducible refine (head12_any _).mono ?_
  rintro e_ w1 ⟨rfl, hb⟩
  replace HB := Lib.hid (on_below HB.out hb)
  replace HL := Lib.hid (HL.out.below hb)
  replace HX := Lib.hid (HX.out.below hb)
  clear hb
  go_wp2_with fail
  with_reducible refine (CF.out _).mono ?_
  rintro e_ w2 ⟨rfl, hb⟩
  replace HB := Lib.hid (on_below HB.out hb)
  replace HL := Lib.hid (HL.out.below hb)
  replace HX := Lib.hid (HX.out.below hb)
  clear hb
  go_wp2_with fail
  with_reducible refine (CH.out _ HX.out).mono ?_
  rintro e_ w3 ⟨rfl, hb⟩
  replace HB := Lib.hid (on_below HB.out hb)
  replace HL := Lib.hid (HL.out.below hb)
  replace HX := Lib.hid (HX.out.below hb)
  clear hb
  go_wp2_with fail
  with_reducible refine (CX.out _ HL.out HX.out).mono ?_
  rintro e_ w31 ⟨hp, hb⟩
  obtain ⟨p1A, p1C, rfl, hq, _, _⟩ : ∃ A C, e_ = .returned (.tuple #[.slice A (D).length C, .int .i64 0]) ∧ LLS w31 A (D) ∧ (D).length ≤ C ∧ C ≤ maxLen := by
    rcases hp with ⟨h0, _⟩ | ⟨_, h⟩
    · exact absurd rfl h0
    · rw [HD.out] at h; exact h
  have HP1 := Lib.hid hq
  clear hq hp
  replace HB := Lib.hid (on_below HB.out hb)
  replace HL := Lib.hid (HL.out.below hb)
  replace HX := Lib.hid (HX.out.below hb)
  clear hb
  go_upto_region 5 with fail
  have own0 := own_lit w31 w31.heap.size 3 1 (Nat.le_refl _)
  have hbL := below_new w31 (.cells #[] 3)
  have HSK := Lib.hid (ins_sk (HX.out.below hbL))
  have m1_ : 0 + X.length ≤ maxLen := by unfold maxLen; omega
  have m2_ : (0 + X.length) * 8 ≤ 140737488355328 := by omega
  have m3_ : X.length + 1 ≤ maxLen := by unfold maxLen; omega
  have m4_ : (X.length + 1) * 8 ≤ 140737488355328 := by omega
  go_wp2_with (first | (at_builtin; refine wpList_append_sk _ rfl (.tmp 43) (.tmp 44) 34 rfl w31.heap.size 3 i0 .i64 8 Try.underlying34 hi0 hz0 hz1 hz2 _ 0 [] rfl own0 xA xC X rfl HSK.out m1_ m2_ hbL.size ?_; intro v1 u1 own1_ gr1 nn1; clear nn1; have hb1 := app_below hbL hbL.size own0 (Nat.le_refl _) gr1; have own1 : u1.ownsRow w31.heap.size 3 1 v1 X.length (X.map (Value.int .i64)) := (by simpa using own1_); clear gr1 own1_) | (at_builtin; refine wpList_append_own _ rfl (.tmp 45) (.tmp 47) 34 rfl w31.heap.size 3 i0 (.int .i64 0) 1 8 Try.underlying34 hi0 hz0 hz1 hz2 rfl (by decide) _ _ _ rfl (own1.alloc _) ⟨u1.heap.size, 0, none⟩ 1 1 [.int .i64 x] rfl rfl (new_k _ _ _) one_k m3_ m4_ (by have := hb1.size; simp <;> omega) ?_; intro v2 u2 own2_ gr2 nn2; clear nn2; have hb := app_bel' hb1 own1 gr2; have own2 := snoc_own own2_ rfl rfl; clear gr2 own2_))
  obtain ⟨yA, yC, rfl, hin, _, _, _, _⟩ := InS.own own2
  clear own0 own1 own2 hbL hb1 HSK m1_ m2_ m3_ m4_
  replace HB := Lib.hid (on_below HB.out hb)
  replace HL := Lib.hid (HL.out.below hb)
  replace HX := Lib.hid (HX.out.below hb)
  replace HP1 := Lib.hid (HP1.out.below hb)
  clear hb
  have HI := Lib.hid hin
  clear hin
  skip
  with_reducible refine (CY.out _ _ _ HL.out HI.out).mono ?_
  rintro e_ w32 ⟨hp, hb⟩
  obtain ⟨p2A, p2C, rfl, hq, _, _⟩ : ∃ A C, e_ = .returned (.tuple #[.slice A (D2).length C, .int .i64 0]) ∧ LLS w32 A (D2) ∧ (D2).length ≤ C ∧ C ≤ maxLen := by
    rcases hp with ⟨h0, _⟩ | ⟨_, h⟩
    · exact absurd rfl h0
    · rw [HD2.out] at h; exact h
  have HP2 := Lib.hid hq
  clear hq hp
  replace HB := Lib.hid (on_below HB.out hb)
  replace HL := Lib.hid (HL.out.below hb)
  replace HX := Lib.hid (HX.out.below hb)
  replace HP1 := Lib.hid (HP1.out.below hb)
  replace HI := Lib.hid (HI.out.below hb)
  clear hb
  go_wp2_with fail
  go_loopw [7, 12, 65] (fun u v i wr => u = .bool true ∧ ∃ k : Nat, k ≤ D.length ∧ i = .int .i64 k ∧ v = .int .i64 (tc k : Nat) ∧ Hid (Below w32.heap.size w32 wr)) (fun _ _ i _ => D.length - (intOf i).toNat)
  case atStart => exact ⟨rfl, 0, Nat.zero_le _, rfl, by rw [HT0.out 0 rfl]; rfl, Below.refl _ _⟩
  case round =>
    obtain ⟨rfl, k, hk, rfl, rfl, HW⟩ := hrel
    by_cases hlt : k < D.length
    rotate_left
    · obtain rfl : k = D.length := Nat.le_antisymm hk (Nat.le_of_not_lt hlt)
      have hfs := HFS.out
      have htl := HTL.out D.length
      generalize tc D.length = c at *
      have g0 : -9223372036854775808 ≤ (D.length : Int) + 1 ∧ (D.length : Int) + 1 ≤ 9223372036854775807 := by omega
      have g1 : -9223372036854775808 ≤ (D.length : Int) + 1 - (c : Int) ∧ (D.length : Int) + 1 - (c : Int) ≤ 9223372036854775807 := by omega
      have d0 : ((D2.length : Int) == (D.length : Int) + 1 - (c : Int)) = true := by rw [beq_iff_eq]; omega
      have s0 : IntKind.i64.wrap ((D.length : Int) + 1) = (D.length : Int) + 1 := IntWalk.i64_in _ g0
      have t0 : wrap64 ((D.length : Int) + 1) = (D.length : Int) + 1 := IntWalk.wrap64_in _ g0
      have s1 : IntKind.i64.wrap ((D.length : Int) + 1 - (c : Int)) = (D.length : Int) + 1 - (c : Int) := IntWalk.i64_in _ g1
      have t1 : wrap64 ((D.length : Int) + 1 - (c : Int)) = (D.length : Int) + 1 - (c : Int) := IntWalk.wrap64_in _ g1
      clear g0 g1 hfs htl hd12 h h2
      go_wp2_with fail
      go_ret
      exact ⟨rfl, on_below HB.out HW.out⟩
    have gk : k ≤ 1000 := by omega
    obtain ⟨b0, o0, a, c, hA0, e0, hsl⟩ := HP1.out.below HW.out k hlt
    have HS := Lib.hid hsl
    have HCB := Lib.hid (CB.out k hlt)
    have hp12 := HPL.out k hlt
    have HTK := Lib.hid (HTS.out k)
    have htk := HTL.out k
    have HNK := Lib.hid (HNS.out k)
    have HNK0 := Lib.hid (HN0.out k)
    clear hsl
    generalize gdL D k = P at *
    generalize ne k = nk at *
    generalize tc k = tk at *
    subst hA0
    have g0 : -9223372036854775808 ≤ (tk : Int) + 1 ∧ (tk : Int) + 1 ≤ 9223372036854775807 := by omega
    have gp : P.length ≤ 1000 := by omega
    have gk2 : k ≤ 100000 := by omega
    clear hp12 htk hd12
    have s0 : IntKind.i64.wrap ((tk : Int) + 1) = (tk : Int) + 1 := IntWalk.i64_in _ g0
    have t0 : wrap64 ((tk : Int) + 1) = (tk : Int) + 1 := IntWalk.wrap64_in _ g0
    have w1_ := wr_up (k := k) gk2
    have w2_ := wr_up' (k := k) gk2
    clear g0 gk gk2
    go_wp2_with fail
    generalize wr = wo at *
    go_loopw [7, 15, 71] (fun u v i wr => u = .bool true ∧ ∃ j : Nat, j ≤ P.length ∧ i = .int .i64 j ∧ v = .bool (nk j) ∧ Hid (Below wo.heap.size wo wr)) (fun _ _ i _ => P.length - (intOf i).toNat)
    case atStart => exact ⟨rfl, 0, Nat.zero_le _, rfl, by rw [HNK0.out], Below.refl _ _⟩
    case round =>
      obtain ⟨rfl, j, hj, rfl, rfl, HI2⟩ := hrel
      by_cases hlj : j < P.length
      rotate_left
      · obtain rfl : j = P.length := Nat.le_antisymm hj (Nat.le_of_not_lt hlj)
        have htk2 := HTK.out
        generalize nk P.length = r at *
        have HZ := Lib.hid (on_below HW.out HI2.out)
        cases r
        · rw [b1_false] at htk2
          have HT2 := Lib.hid htk2
          clear htk2
          go_wp2_with fail
          go_roundw
          case rel => exact ⟨rfl, k + 1, hlt, int_of (by first | rfl | exact w1_ | exact w2_), by rw [HT2.out]; rfl, HZ.out⟩
          case measure => simp [intOf, w1_, w2_]; clear w1_ w2_ s0 t0; omega
        · rw [b1_true] at htk2
          have HT2 := Lib.hid htk2
          clear htk2
          go_wp2_with fail
          go_roundw
          case rel => exact ⟨rfl, k + 1, hlt, int_of (by first | rfl | exact w1_ | exact w2_), by rw [HT2.out]; first | rfl | exact int_of s0 | exact int_of t0, HZ.out⟩
          case measure => simp [intOf, w1_, w2_]; clear w1_ w2_ s0 t0; omega
      have gj : j ≤ 100000 := Nat.le_trans hj (Nat.le_trans gp (by decide))
      have v1_ := wr_up (k := j) gj
      have v2_ := wr_up' (k := j) gj
      clear gj
      obtain ⟨b1_, o1, hA1, f0⟩ := HS.out.below HI2.out j hlj
      have HLI := Lib.hid (HL.out.below (on_below HW.out HI2.out))
      have HCJ := Lib.hid (HCB.out j hlj)
      have HNJ := Lib.hid (HNK.out j)
      generalize gdI P j = y at *
      generalize nxt (gdP (selP l X) _) _ = r at *
      subst hA1
      go_wp2_with fail
      with_reducible refine (HCJ.out _ HLI.out).mono ?_
      rintro e_ w60 ⟨rfl, hb⟩
      have HZ := Lib.hid (on_below HI2.out hb)
      clear hb HCJ HLI f0
      generalize nk j = q at *
      cases q <;> cases r
      all_goals go_wp2_with fail
      all_goals go_roundw
      all_goals (first | exact ⟨rfl, j + 1, hlj, int_of (by first | rfl | exact v1_ | exact v2_), by rw [HNJ.out]; rfl, HZ.out⟩ | (simp [intOf, v1_, v2_]; clear v1_ v2_ w1_ w2_ s0 t0; omega))
theorem law_any (lA : Option Addr) (lC : Nat) (l : List Pl) (xA : Option Addr) (xC : Nat) (X : List Int) (x : Int) (ix : I64 x) (w : World) (hl : LP w lA lC l) (hx : LI w xA xC X) :
    Calls Try.prog 7 #[.slice lA l.length lC, .slice xA X.length xC, .int .i64 x] w fun e_ w' => e_ = .returned (.bool true) ∧ Below w.heap.size w w' := by
  by_cases h : l.length ≤ 40
  rotate_left
  · exact fur_0 lA lC l xA xC X x h w hl.sl hx.sl
  by_cases h2 : X.length ≤ 12
  rotate_left
  · exact fur_1 lA lC l xA xC X x h h2 w hl.sl hx.sl
  by_cases hm : x ∈ X
  · exact fur_2 lA lC l xA xC X x h h2 hm w hl.sl hx.sl
  obtain ⟨E, hE⟩ := Sui.ex plOk l X
  obtain ⟨F, hF⟩ := Sui.ex plOk l (X ++ [x])
  by_cases f0 : F = 0
  · subst f0
    exact fur_5 lA lC l xA xC X x h h2 hm hx.fit ix (sui_snoc hF).1 hF (fun k hk => (hl.fit k hk).1) w hl.sl hx.sl
  · by_cases e0 : E = 0
    · subst e0
      exact fur_4 lA lC l xA xC X x h h2 hm hx.fit ix F hE hF f0 w hl.sl hx.sl
    · exact fur_3 lA lC l xA xC X x h h2 hm hx.fit ix E F hE hF e0 f0 w hl.sl hx.sl
/-! ### The row -/
open Go.ChangeShapes Go.WideShapes Go.ChangeAt Go.Joins
theorem own : ownKnob Try.prog.godebug = none := by kernel_rfl
noncomputable def laidWorld (os : Os) : World := World.holding Try.prog os ⟨#[], #[], []⟩
theorem laidWorld_met (os : Os) (args : Array Value) : laidMet Try.prog [] ((laidWorld os).forCall (fun _ _ => 0) ⟨#[], args, []⟩).memory :=
  laidMet_of_run' 8 (by kernel_rfl) (by kernel_rfl)

set_option maxRecDepth 100000 in
theorem contract (H : Type) (enc : TypeId × Value → H) (W : World) (base : Nat) (args : Array Value) (ds gs : List (DataW H)) (before : List MemPlace)
    (hval : ∀ (j : Nat) t v, Try.f7.params[j]? = some t → args[j]? = some v → Value.okWide Try.prog W .any base t v)
    (hW : DataW.Whole enc Try.prog Try.f7.params.toList Rows.tiersFurtherSpec.vars false W args.toList ds gs before) :
    Calls Try.prog 7 args W fun e W' => ∃ v, e = .returned v ∧ Rows.tiersFurtherSpec.post enc Try.prog Try.f7 false true false false W args v W' := by
  have hW' := hW
  have hold : ∀ q ∈ before, decide (q.block < W.heap.size) = true := fun q hq => by simpa using hW.lt q hq
  obtain ⟨p, q, hA0, hV, rfl, hfz, hnd⟩ := hW
  have hA : DataW.TrodAll enc Try.prog W 0 (fun _ => true) true Try.f7.params.toList args.toList ds p := hA0
  rw [Try.params7] at hA hval
  obtain ⟨v0, vs0, d0, ds0, p0, q0, hargs, rfl, rfl, h0, r0⟩ := trodAll_cons hA
  obtain ⟨v1, vs1, d1, ds1, p1, q1, rfl, rfl, rfl, h1, r1⟩ := trodAll_cons r0
  obtain ⟨v2, vs2, d2, ds2, p2, q2, rfl, rfl, rfl, h2, r2⟩ := trodAll_cons r1
  obtain ⟨rfl, rfl, rfl⟩ := trodAll_nil r2
  obtain rfl : args = #[v0, v1, v2] := Array.toList_inj.1 hargs
  obtain ⟨rfl, rfl⟩ := trodVars_none hV
  obtain ⟨lA, lC, l, rfl, ll, shutl⟩ := open_plan (hval 0 22 v0 rfl rfl) h0
  obtain ⟨xA, xC, x, rfl, lx, shutx⟩ := open_nums (hval 1 34 v1 rfl rfl) h1
  obtain ⟨id, rfl, rfl, rfl, iid⟩ := open_int Try.underlying3 (hval 2 3 v2 rfl rfl) h2
  clear hA0
  refine (law_any lA lC l xA xC x id (wf_i iid) W ll lx).mono fun e W' ⟨he, bel⟩ => ?_
  subst he
  exact ⟨_, rfl, _, _, _, [], _, [], hW', trodAll_mk1 (shut_bool Try.underlying4 _), (trodAll_cons_mk (shutl W' (fun b => decide (b < W.heap.size)) bel (fun q hq => hold q (by simp [hq]))) (trodAll_cons_mk (shutx W' (fun b => decide (b < W.heap.size)) bel (fun q hq => hold q (by simp [hq]))) (trodAll_cons_mk (shut_int Try.underlying3 iid) trodAll_mk0))), rfl, bel.frame _, fun h => by cases h⟩

theorem reads (os : Os) {H : Type} (enc : TypeId × Value → H) : ∃ places, DataW.whole enc Try.prog ((laidWorld os).forCall (fun _ _ => 0) ⟨#[], #[.slice none 0 0, .slice none 0 0, .int .i64 0], []⟩).memory Try.f7.params.toList Rows.tiersFurtherSpec.vars false (#[.slice none 0 0, .slice none 0 0, .int .i64 0] : Array Value).toList 8 = some ([.nil, .nil, .lit (.int .i64 0)], [], places) :=
  ⟨[], by kernel_rfl⟩

set_option maxRecDepth 100000 in
theorem lifted (os : Os) (started : os.Started) (H : Type) (enc : TypeId × Value → H) (F : Stop.Interp) :
    ReturnsInHanded {} Try.checked os 7 .any ((OpenSpec.ofChange Rows.tiersFurtherSpec).preRow enc Try.prog Try.f7 Rows.tiersFurtherRow.domain false Rows.tiersFurtherRow.laid) (((OpenSpec.ofChange Rows.tiersFurtherSpec).at F).post enc Try.prog Try.f7 false true false false) := by
  obtain ⟨places, hx⟩ := reads os enc
  refine returnsInHanded_of_row (C := Try.checked) (s := OpenSpec.ofChange Rows.tiersFurtherSpec) own started (by kernel_rfl) Try.func7
    (witness_row_atRef (enc := enc) (C := Try.checked) false (laidWorld os) #[.slice none 0 0, .slice none 0 0, .int .i64 0] rfl (by kernel_rfl) (by kernel_rfl) (by kernel_rfl)
      (OpenSpec.preRow_of_cond 8 hx (by kernel_rfl) (fun k hk => by cases hk) (by kernel_rfl) (laidWorld_met os _))) ?_
  intro W base args ds gs before hval hW _ hcond _ hL hsh _
  exact contract H enc W base args ds gs before hval hW

/-- The statement. -/
theorem said : Rows.TiersFurtherSaid :=
  OpenClaim.holds_of_cond 7 Try.f7 rfl rfl rfl rfl rfl rfl rfl ⟨rfl, rfl, rfl, rfl, rfl⟩ rfl rfl rfl rfl rfl (by kernel_rfl) Try.func7 (by kernel_rfl)
    (of_decide_eq_true (by kernel_rfl)) (by unfold Func.isWrapper; first | (rw [if_pos (by decide +kernel)]; kernel_rfl) | (rw [if_neg (by decide +kernel)]; exact ⟨rfl, rfl⟩))
    (fun os started H enc _ F => by rw [OpenClaim.pre_eq_preRow]; exact lifted os started H enc F)
end Go.Proofs.Ytgikpcoaennkgaa.LawFurther
