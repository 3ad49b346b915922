/-
  P5.3: Ints is the digest of the text; another last digit makes another digest.
-/
import Derived.Test.YtpplpnmammpkpaaDoorDigRA
import Derived.Test.YtpplpnmammpkpaaDoorDigY
import Derived.Test.YtpplpnmammpkpaaDoorCards
import Derived.Test.YtpplpnmammpkpaaDoorTie
import Derived.Deep.DeepCutAuto
namespace Go.Proofs.YtpplpnmammpkpaaDoor.digestNumbers
open Go.RowKit Go.Sort
open Go.RowKit (Below)
set_option linter.unusedVariables false
set_option linter.unusedSimpArgs false

theorem itoa_nat (k : Nat) : Lib.itoa (k : Int) = Lib.decDigits k := by
  unfold Lib.itoa
  rw [if_neg (by omega), Int.toNat_natCast]
theorem txI_last (m : Nat) : txI (m : Int) = (if m < 10 then [] else txI ((m / 10 : Nat) : Int)) ++ [48 + (m : Int) % 10] := by
  unfold txI
  rw [itoa_nat m, itoa_nat (m / 10)]
  by_cases h : m < 10
  · rw [if_pos h, digits_one m h]
    have : (UInt8.ofNat (48 + m)).toNat = 48 + m := by simp; omega
    simp only [List.map_cons, List.map_nil, this, List.nil_append, List.cons.injEq, and_true]
    omega
  · rw [if_neg h, digits_step m (by omega)]
    have : (UInt8.ofNat (48 + m % 10)).toNat = 48 + m % 10 := by simp; omega
    simp only [List.map_append, List.map_cons, List.map_nil, this, List.append_cancel_left_eq, List.cons.injEq, and_true]
    omega
theorem txs_set {l : List Int} {j : Nat} (v : Int) (hj : j < l.length) : txs (l.set j v) = txs (l.take j) ++ (txI v ++ [32]) ++ txs (l.drop (j + 1)) := by
  rw [set_split v hj]; simp [txs]
theorem txs_at {l : List Int} {j : Nat} (hj : j < l.length) : txs l = txs (l.take j) ++ (txI (gd l j) ++ [32]) ++ txs (l.drop (j + 1)) := by
  conv => lhs; rw [split_at hj]
  simp [txs]
/-- Another last digit. -/
theorem num_ne {l : List Int} {j : Nat} {d : Int} (hj : j < l.length) (h0 : 0 ≤ gd l j) (hd : 0 ≤ d) (hd9 : d < 10) (hne : gd l j % 10 ≠ d) : dig (txs (l.set j (gd l j - gd l j % 10 + d))) ≠ dig (txs l) := by
  rw [txs_set _ hj, txs_at hj]
  obtain ⟨m, hm⟩ := Int.eq_ofNat_of_zero_le h0
  rw [hm] at hne ⊢
  obtain ⟨v, hv⟩ : ∃ v : Nat, (m : Int) - (m : Int) % 10 + d = (v : Int) := ⟨((m : Int) - (m : Int) % 10 + d).toNat, by omega⟩
  rw [hv, txI_last m, txI_last v]
  have e1 : v / 10 = m / 10 := by omega
  have e2 : (v : Int) % 10 = d := by omega
  have e3 : (v < 10) = (m < 10) := by rw [eq_iff_iff]; omega
  have e4 : (if v < 10 then [] else txI ((v / 10 : Nat) : Int)) = (if m < 10 then [] else txI ((m / 10 : Nat) : Int)) := by rw [e1]; simp only [e3]
  rw [e4, e2]
  generalize (if m < 10 then [] else txI ((m / 10 : Nat) : Int)) = P
  have key := dig_byte (xs := txs (l.take j) ++ P) (zs := 32 :: txs (l.drop (j + 1))) (b := 48 + d) (b' := 48 + (m : Int) % 10) (fun b hb => by
    rcases List.mem_cons.1 hb with rfl | hb
    · constructor <;> decide
    · exact txs_u _ b hb) ⟨by omega, by omega⟩ ⟨by omega, by omega⟩ (by omega)
  simpa using key
theorem sum_n' (A : Option Addr) (C n : Nat) (xs : List Int) (hn : xs.length = n) (v : Int) (hv : dig xs = v) (w : World) (hl : xs.length ≤ 9223372036854775807) (hs : Sk .u8 w A xs) :
    Calls Tryd.prog 11 #[.slice A n C] w fun e w' => e = .returned (.int .u64 v) ∧ w = w' := by subst hn; exact sum_is A C xs v hv w hl hs
theorem ints_n (A : Option Addr) (C n : Nat) (xs : List Int) (hn : xs.length = n) (v : Int) (hv : dig (txs xs) = v) (w : World) (hs : St w) (hl : xs.length ≤ 9223372036854775807) (hi : ∀ x ∈ xs, I64 x) (h : Sk .i64 w A xs) :
    Calls Tryd.prog 13 #[.slice A n C] w fun e w' => e = .returned (.int .u64 v) ∧ Below w.heap.size w w' := by subst hn; exact ints_is A C xs v hv w hs hl hi h
theorem i64_info : (Tryd.prog.info? 3).map (fun i => (i.zero, i.size, i.bytes)) = some (some (.int .i64 0), 1, 8) := by kernel_rfl
theorem own_nil_i (w : World) {base : Nat} (hb : base ≤ w.heap.size) : (w.alloc (.cells #[] 3)).ownsRow base 3 1 (.slice (some ⟨w.heap.size, 0, none⟩) 0 0) 0 [] := own_new w #[] 3 hb (by unfold maxLen; simp)
theorem set_i {l : List Int} {j : Nat} {v : Int} (h : ∀ x ∈ l, I64 x) (hv : I64 v) : ∀ x ∈ l.set j v, I64 x := by
  intro x hx
  rcases List.mem_or_eq_of_mem_set hx with hx | rfl
  · exact h x hx
  · exact hv
set_option maxRecDepth 100000 in
set_option maxHeartbeats 4000000 in
theorem law_any (lA : Option Addr) (lC : Nat) (l : List Int) (jl : ∀ x ∈ l, I64 x) (kl : l.length ≤ lC ∧ lC ≤ 9223372036854775807) (z : Int) (iz : I64 z) (y : Int) (iy : U8 y) (w : World) (hs : St w) (sl : Sk .i64 w lA l) :
    Calls Tryd.prog 5 #[.slice lA l.length lC, .int .i64 z, .int .u8 y] w fun e w' => e = .returned (.bool true) ∧ Below w.heap.size w w' := by
  have HS0 := Lib.hid hs
  have HS := Lib.hid hs
  clear hs
  have Hl := Lib.hid sl
  clear sl
  have Jl := Lib.hid jl
  clear jl
  have Kl := Lib.hid kl
  clear kl
  have Iz := Lib.hid iz
  clear iz
  have Iy := Lib.hid iy
  clear iy
  by_cases e0 : 100 < l.length
  · have d0 : decide (100 < (l.length : Int)) = true := by rw [decide_eq_true_eq]; omega
    have HB := Lib.hid (Below.refl w.heap.size w)
    go_enter Tryd.func5, Tryd.ntmps5
    go_wp2_with fail
    refine (head_any _ HS.out).mono ?_
    rintro e w' ⟨rfl, hb⟩
    replace HB := Lib.hid (on_below HB.out hb)
    replace HS := Lib.hid (HS.out.on hb)
    clear hb
    go_wp2_with fail
    go_ret
    exact ⟨rfl, HB.out⟩
  have d0 : decide (100 < (l.length : Int)) = false := by rw [decide_eq_false_iff_not]; omega
  have hlen : l.length ≤ 100 := by omega
  clear e0
  have hcv : ∀ (s : ByteArray) (W : World), (convert 9 22 (.string s)).run Tryd.prog W = .ok (.slice (some ⟨W.heap.size, 0, none⟩) s.size (grownCap W s.size 0 5)) (Lib.bytesWorld W 5 s) := fun s W => Lib.run_convert_string_bytes W _ _ _ s Tryd.underlying9 Tryd.underlying22 Tryd.underlying5
  obtain ⟨z1, z2⟩ := Iz.out
  obtain ⟨y1, y2⟩ := Iy.out
  obtain ⟨i0, hi0, hz0, hz1, hz2⟩ := info_parts i64_info
  obtain ⟨V, hV⟩ : ∃ V, dig (txs l) = V := ⟨_, rfl⟩
  have HV := Lib.hid hV
  clear hV
  have HB := Lib.hid (Below.refl w.heap.size w)
  go_enter Tryd.func5, Tryd.ntmps5
  go_wp2_with fail
  refine (head_any _ HS.out).mono ?_
  rintro e w' ⟨rfl, hb⟩
  replace HB := Lib.hid (on_below HB.out hb)
  replace HS := Lib.hid (HS.out.on hb)
  clear hb
  go_wp2_with fail
  have HB1 := HB
  clear HS HB
  go_loopw [8, 22] (fun s i wr => ∃ (k : Nat) (S : ByteArray), k ≤ l.length ∧ i = .int .i64 k ∧ s = .string S ∧ S.size ≤ 22 * k ∧ Hid (strB S = txs (l.take k)) ∧ Below w.heap.size w wr) (fun _ i _ => l.length - (intOf i).toNat)
  case atStart => exact ⟨0, ⟨#[]⟩, Nat.zero_le _, rfl, rfl, Nat.zero_le _, rfl, HB1.out⟩
  case round =>
    obtain ⟨k, S, hk, rfl, rfl, hS, HT, hb⟩ := hrel
    clear HB1
    by_cases hlt : k < l.length
    · obtain ⟨b, o, rfl, hc0⟩ := Hl.out k hlt
      have hc : wr.cell? ⟨b, o + k, none⟩ = some (.int .i64 (gd l k)) := cell_on hb (block_lt hc0) hc0
      have hI := Jl.out _ (getD_mem hlt)
      obtain ⟨T, hT⟩ : ∃ T : ByteArray, T = itS (gd l k) ++ ⟨#[32]⟩ := ⟨_, rfl⟩
      have hsp : (⟨#[32]⟩ : ByteArray).size = 1 := rfl
      have hz := itS_size _ hI
      have hTs : T.size ≤ 22 := by rw [hT, ByteArray.size_append]; omega
      have ca : ∀ W, (Op.stringOp .add (itS (gd l k)) ⟨#[32]⟩).run Tryd.prog W = .ok (.string T) W := fun W => by rw [hT]; exact add_run _ _ (by omega) W
      have cb : ∀ W, (Op.stringOp .add S T).run Tryd.prog W = .ok (.string (S ++ T)) W := fun W => add_run _ _ (by omega) W
      have hN : strB (S ++ T) = txs (l.take (k + 1)) := by rw [txs_take hlt, strB_app, HT.out, hT, strB_app, txI_it]; rfl
      have HN := Lib.hid hN
      have HI := Lib.hid hI
      have hS2 : (S ++ T).size ≤ 22 * (k + 1) := by rw [ByteArray.size_append]; omega
      clear hT hsp hz hc0 hI hN HT hS hcv
      generalize gd l k = x at *
      generalize hST : S ++ T = S2 at *
      clear hST
      go_wp2_with fail
      refine (dec_any x HI.out _).mono ?_
      rintro e w' ⟨rfl, hb1⟩
      have hB := on_below hb hb1
      clear hb hb1 hc
      go_wp2_with fail
      go_roundw
      case rel => exact ⟨k + 1, S2, by omega, by go_num, rfl, hS2, HN, hB⟩
      case measure => simp [intOf]; omega
    have HT2 := Lib.hid (show dig (strB S) = V by rw [HT.out, List.take_of_length_le (by omega)]; exact HV.out)
    have HB := Lib.hid hb
    have hS2 : S.size ≤ 2200 := by omega
    clear hb HT hS
    go_wp2_with fail
    refine (ints_is lA lC l V HV.out _ (HS0.out.on HB.out) (le_max Kl.out) Jl.out (Hl.out.below HB.out)).mono ?_
    rintro e w' ⟨rfl, hb⟩
    replace HB := Lib.hid (on_below HB.out hb)
    clear hb
    go_wp2_with fail
    refine (sum_n' (some ⟨w'.heap.size, 0, none⟩) _ S.size (strB S) (strB_len S) V HT2.out _ (by rw [strB_len]; omega) (conv_sk _ _ _)).mono ?_
    rintro e w'' ⟨rfl, rfl⟩
    have hb5 := conv_below w' 5 S
    generalize Lib.bytesWorld w' 5 S = W5 at *
    replace HB := Lib.hid (on_below HB.out hb5)
    clear hb5 HT2 hcv
    by_cases h0 : l.length = 0
    · have h1 : ((l.length : Int) == 0) = true := by rw [beq_iff_eq]; omega
      clear h0 hlt
      go_wp2_with fail
      go_ret
      exact ⟨rfl, HB.out⟩
    have h1 : ((l.length : Int) == 0) = false := by rw [beq_eq_false_iff_ne]; omega
    have hpos : 0 < l.length := by omega
    clear h0 hlt
    obtain ⟨j, ej, hj⟩ := ix_ex z l.length hpos (by omega)
    have hj2 : (j : Int) < (l.length : Int) := by omega
    have hNN := num_ne (l := l) (j := j) (d := y % 10) hj
    have hI := Jl.out _ (getD_mem hj)
    obtain ⟨b, o, rfl, hc0⟩ := Hl.out j hj
    have hc := cell_on HB.out (block_lt hc0) hc0
    clear hc0
    obtain ⟨x, hx⟩ : ∃ x, gd l j = x := ⟨_, rfl⟩
    rw [hx] at hNN hI hc
    have Hgx := Lib.hid hx
    clear hx
    obtain ⟨x1, x2⟩ := hI
    have HNN := Lib.hid hNN
    clear hNN
    by_cases hA : x < 0
    · go_wp2_with fail
      go_ret
      exact ⟨rfl, HB.out⟩
    have hA2 : decide (x < 0) = false := by simpa using hA
    by_cases hB : 4611686018427387904 < x
    · go_wp2_with fail
      go_ret
      exact ⟨rfl, HB.out⟩
    have hB2 : decide (4611686018427387904 < x) = false := by simpa using hB
    by_cases hC : x % 10 = y % 10
    · have hC2 : (x % 10 == y % 10) = true := by rw [beq_iff_eq]; exact hC
      clear hC
      go_wp2_with fail
      go_ret
      exact ⟨rfl, HB.out⟩
    have hC2 : (x % 10 == y % 10) = false := by rw [beq_eq_false_iff_ne]; exact hC
    have hne := HNN.out (by omega) (by omega) (by omega) hC
    obtain ⟨D, hD⟩ : ∃ D, dig (txs (l.set j (x - x % 10 + y % 10))) = D := ⟨_, rfl⟩
    rw [hD, HV.out] at hne
    have HD := Lib.hid hD
    have hDV : (D != V) = true := by simpa using hne
    clear hD hne hC HNN
    have hVi : I64 (x - x % 10 + y % 10) := ⟨by omega, by omega⟩
    have HVi := Lib.hid hVi
    clear hVi
    go_wp2_with (at_builtin; refine wpList_append_sk _ rfl (.tmp 75) (.tmp 76) 23 rfl w.heap.size 3 i0 .i64 8 Tryd.underlying23 hi0 hz0 hz1 hz2 _ 0 [] rfl (own_nil_i W5 HB.out.size) (some ⟨b, o, none⟩) lC l rfl (Hl.out.below (HB.out.alloc HB.out.size (.cells #[] 3))) (by unfold maxLen; omega) (by omega) (HB.out.alloc HB.out.size (.cells #[] 3)).size ?_; intro v6 w6 own6 gr6 _; have b6 := app_below (HB.out.alloc HB.out.size (.cells #[] 3)) (HB.out.alloc HB.out.size (.cells #[] 3)).size (own_nil_i W5 HB.out.size) (Nat.le_refl _) gr6; obtain ⟨g, gC, rfl, hg1, hg2, hsk, hfz⟩ := own_row (xs := l) (by simpa using own6) hpos; have hcell : w6.cell? ⟨g, j, none⟩ = some (.int .i64 x) := (by have h := sk_here hsk hj; rw [Nat.zero_add, Hgx.out] at h; exact h); have hfr := hfz j; have Hsk := Lib.hid hsk; have Hg1 := Lib.hid hg1; have B6 := Lib.hid b6; clear hsk hfz hg1 own6 gr6 b6)
    refine (ints_n (some ⟨g, 0, none⟩) gC l.length (l.set j (x - x % 10 + y % 10)) (by simp) D HD.out _ (HS0.out.on (B6.out.setCell Hg1.out _)) (by simp; omega) (set_i Jl.out HVi.out) (sk_set Hsk.out hj)).mono ?_
    rintro e w' ⟨rfl, hb⟩
    replace HB := Lib.hid (on_below (B6.out.setCell Hg1.out _) hb)
    clear hb Hsk hcell hfr hg2
    go_wp2_with fail
    refine (ints_is (some ⟨b, o, none⟩) lC l V HV.out _ (HS0.out.on HB.out) (le_max Kl.out) Jl.out (Hl.out.below HB.out)).mono ?_
    rintro e w' ⟨rfl, hb⟩
    replace HB := Lib.hid (on_below HB.out hb)
    clear hb
    go_wp2_with fail
    go_ret
    exact ⟨rfl, HB.out⟩
/-! ### The row and the card -/
open Go.ChangeShapes Go.WideShapes Go.ChangeAt Go.Joins

set_option maxRecDepth 100000 in
theorem contract (H : Type) (enc : TypeId × Value → H) (W : World) (base : Nat) (args : Array Value) (ds gs : List (DataW H)) (before : List MemPlace)
    (hval : ∀ (j : Nat) t v, Tryd.f5.params[j]? = some t → args[j]? = some v → Value.okWide Tryd.prog W .any base t v)
    (hW : DataW.Whole enc Tryd.prog Tryd.f5.params.toList Rows.digestNumbersSpec.vars false W args.toList ds gs before) (hL : laidMetH Tryd.prog laid3 W) :
    Calls Tryd.prog 5 args W fun e W' => ∃ v, e = .returned v ∧ Rows.digestNumbersSpec.post enc Tryd.prog Tryd.f5 false true false false W args v W' := by
  have hW' := hW
  have hold : ∀ q ∈ before, decide (q.block < W.heap.size) = true := fun q hq => by simpa using hW.lt q hq
  obtain ⟨p, q, hA0, hV, rfl, hfz, hnd⟩ := hW
  have hA : DataW.TrodAll enc Tryd.prog W 0 (fun _ => true) true Tryd.f5.params.toList args.toList ds p := hA0
  rw [Tryd.params5] at hA hval
  obtain ⟨v0, vs0, d0, ds0, p0, q0, hargs, rfl, rfl, h0, r0⟩ := trodAll_cons hA
  obtain ⟨v1, vs1, d1, ds1, p1, q1, rfl, rfl, rfl, h1, r1⟩ := trodAll_cons r0
  obtain ⟨v2, vs2, d2, ds2, p2, q2, rfl, rfl, rfl, h2, r2⟩ := trodAll_cons r1
  obtain ⟨rfl, rfl, rfl⟩ := trodAll_nil r2
  obtain rfl : args = #[v0, v1, v2] := Array.toList_inj.1 hargs
  obtain ⟨rfl, rfl⟩ := trodVars_none hV
  obtain ⟨lA, lC, l, rfl, sl, wl, kl, shutl⟩ := open_nums Tryd.underlying23 Tryd.underlying3 cellsInt (hval 0 23 v0 rfl rfl) h0
  obtain ⟨z, rfl, rfl, rfl, wz⟩ := open_int Tryd.underlying3 (hval 1 3 v1 rfl rfl) h1
  obtain ⟨y, rfl, rfl, rfl, wy⟩ := open_int Tryd.underlying5 (hval 2 5 v2 rfl rfl) h2
  clear hA0
  refine (law_any lA lC l (fun x hx => wf_i (wl x hx)) kl z (wf_i wz) y (wf_u8 wy) W (st_of hL) sl).mono fun e W' ⟨he, bel⟩ => ?_
  subst he
  exact ⟨_, rfl, _, _, _, [], _, [], hW', trodAll_mk1 (shut_bool Tryd.underlying4 _), (trodAll_cons_mk (shutl W' (fun b => decide (b < W.heap.size)) bel (fun q hq => hold q (by simp [hq]))) (trodAll_cons_mk (shut_int Tryd.underlying3 wz) (trodAll_cons_mk (shut_int Tryd.underlying5 wy) trodAll_mk0))), rfl, bel.frame _, fun h => by cases h⟩

theorem reads (os : Os) {H : Type} (enc : TypeId × Value → H) : ∃ places, DataW.whole enc Tryd.prog ((laidWorld os).forCall (fun _ _ => 0) ⟨#[], #[.slice none 0 0, .int .i64 0, .int .u8 0], []⟩).memory Tryd.f5.params.toList Rows.digestNumbersSpec.vars false (#[.slice none 0 0, .int .i64 0, .int .u8 0] : Array Value).toList 8 = some ([.nil, .lit (.int .i64 0), .lit (.int .u8 0)], [], places) :=
  ⟨[], by kernel_rfl⟩

set_option maxRecDepth 100000 in
theorem lifted (os : Os) (started : os.Started) (H : Type) (enc : TypeId × Value → H) (F : Stop.Interp) :
    ReturnsInHanded {} Tryd.checked os 5 .any ((OpenSpec.ofChange Rows.digestNumbersSpec).preRow enc Tryd.prog Tryd.f5 Rows.digestNumbersRow.domain false Rows.digestNumbersRow.laid) (((OpenSpec.ofChange Rows.digestNumbersSpec).at F).post enc Tryd.prog Tryd.f5 false true false false) := by
  obtain ⟨places, hx⟩ := reads os enc
  refine returnsInHanded_of_row (C := Tryd.checked) (s := OpenSpec.ofChange Rows.digestNumbersSpec) own started (by kernel_rfl) Tryd.func5
    (witness_row_atRef (enc := enc) (C := Tryd.checked) false (laidWorld os) #[.slice none 0 0, .int .i64 0, .int .u8 0] rfl (by kernel_rfl) (by kernel_rfl) (by kernel_rfl)
      (OpenSpec.preRow_of_cond 8 hx (by kernel_rfl) (fun k hk => by cases hk) (by kernel_rfl) (laidWorld_met3 os _))) ?_
  intro W base args ds gs before hval hW _ hcond _ hL hsh _
  exact contract H enc W base args ds gs before hval hW hL

theorem said : Rows.DigestNumbersSaid :=
  OpenClaim.holds_of_cond 5 Tryd.f5 rfl rfl rfl rfl rfl rfl rfl ⟨rfl, rfl, rfl, rfl, rfl⟩ rfl rfl rfl rfl rfl (by kernel_rfl) Tryd.func5 (by kernel_rfl)
    (of_decide_eq_true (by kernel_rfl)) (by unfold Func.isWrapper; first | (rw [if_pos (by decide +kernel)]; kernel_rfl) | (rw [if_neg (by decide +kernel)]; exact ⟨rfl, rfl⟩))
    (fun os started H enc _ F => by rw [OpenClaim.pre_eq_preRow]; exact lifted os started H enc F)

theorem plain (f : FuncId) (fn : Func) (hf : Tryd.pinned.checked.prog.funcNamed "barcarole/barcarolelaw05.DigestNumbers" = some f) (hfn : Tryd.pinned.checked.prog.funcs[f]? = some fn) :
    false = Tryd.pinned.checked.prog.looks [] ∧ ∀ (j : Nat) t, fn.params[j]? = some t → Tryd.pinned.checked.prog.wantsStandIn t = false := by
  obtain rfl : f = 5 := Option.some.inj ((show Tryd.prog.funcNamed "barcarole/barcarolelaw05.DigestNumbers" = some 5 by kernel_rfl).symm.trans hf) |>.symm
  obtain rfl : fn = Tryd.f5 := (Option.some.inj (Tryd.func5.symm.trans hfn)).symm
  refine ⟨by kernel_rfl, fun j t ht => ?_⟩
  rw [Tryd.params5] at ht
  have ht' : t = 23 ∨ t = 3 ∨ t = 5 := by
    have := Array.mem_of_getElem? ht
    simp at this
    first | omega | (rcases this with h | h | h | h | h | h | h | h <;> simp [h]) | (rcases this with h | h | h | h | h | h | h <;> simp [h]) | (rcases this with h | h | h | h | h | h <;> simp [h]) | (rcases this with h | h | h | h | h <;> simp [h]) | (rcases this with h | h | h | h <;> simp [h]) | (rcases this with h | h | h <;> simp [h]) | (rcases this with h | h <;> simp [h])
  rcases ht' with rfl | rfl | rfl
  · exact (show Tryd.prog.wantsStandIn 23 = false by kernel_rfl)
  · exact (show Tryd.prog.wantsStandIn 3 = false by kernel_rfl)
  · exact (show Tryd.prog.wantsStandIn 5 = false by kernel_rfl)

/-- The statement. -/
theorem card : Rows.DigestNumbersCardSaid :=
  Claim7.holds_tied_plain_at .later [] _ _ _ _ said (fun _ h => by cases h) (by kernel_rfl) (fun _ h => by cases h) digestNumbers_row_tie rfl ⟨rfl, rfl⟩ (by kernel_rfl) rfl plain (by kernel_rfl)
end Go.Proofs.YtpplpnmammpkpaaDoor.digestNumbers
