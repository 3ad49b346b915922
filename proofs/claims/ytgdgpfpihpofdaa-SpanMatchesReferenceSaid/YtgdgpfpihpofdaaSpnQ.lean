/-
  Package span: combine of valid lists.
-/
import Derived.Test.YtgdgpfpihpofdaaSpnPC
import Derived.Laws.EntriesVeiled
namespace Go.Proofs.Ytgdgpfpihpofdaa
open Go.RowKit Go.Sort Go.Shelf
open Go.RowKit (Below)
set_option linter.unusedVariables false
set_option linter.unusedSimpArgs false
attribute [local go_sem] Oper.semAt_some

theorem valid_b (A : Option Addr) (C : Nat) (xs : List Spn) (b : Bool) (hb : vldS xs = b) (w : World) (hl : xs.length ≤ 9223372036854775807) (h : SlS w A xs) :
    Calls Try.prog 12 #[.slice A xs.length C] w fun e w' => e = .returned (.bool b) ∧ Below w.heap.size w w' := by
  subst hb; exact valid_any A C xs w hl h
theorem enters_has (args : Array Value) (w : World) : (callFunc 35 args).run Try.prog w = .ok (.enter 35 args) w := by simp [go_sem]

/-- What combine gives: a list and no error, or too many. -/
def CmbE (zs : List Spn) (w : World) (e : Ending) (w' : World) : Prop :=
  (zs.length ≤ 1000 ∧ ∃ A C, e = .returned (.tuple #[.slice A zs.length C, .int .i64 0]) ∧ Ls w' A C zs ∧ Below w.heap.size w w') ∨
  (1000 < zs.length ∧ e = .returned (.tuple #[.slice none 0 0, .int .i64 2]) ∧ Below w.heap.size w w')

set_option maxRecDepth 100000 in
set_option maxHeartbeats 4000000 in
theorem combine_ok (op : Bool → Bool → Bool) (h0 : op false false = false) (g : Nat) (eg : ∀ args w, (callFunc g args).run Try.prog w = .ok (.enter g args) w) (HG : ∀ a b W, Calls Try.prog g #[.bool a, .bool b] W fun e w' => e = .returned (.bool (op a b)) ∧ W = w')
    (A B : Option Addr) (C D : Nat) (xs ys : List Spn) (w : World) (hx : Ls w A C xs) (hy : Ls w B D ys) (vx : vldS xs = true) (vy : vldS ys = true) :
    Calls Try.prog 30 #[.slice A xs.length C, .slice B ys.length D, .func (.func g) #[] #[]] w (CmbE (cmb op xs ys) w) := by
  have HX := Lib.hid hx
  have HY := Lib.hid hy
  have VX := Lib.hid vx
  have VY := Lib.hid vy
  have HO := Lib.hid h0
  have hl := (vldS_iff.1 vx).1
  have hl2 := (vldS_iff.1 vy).1
  have HGG := Lib.hid HG
  have CX := Lib.hid hx.cap
  clear hx hy vx vy HG h0
  refine (callsIn_wide (n := 8)).1 ?_
  refine callsIn_of_wp_marks Try.func30 rfl trivial ?_ rfl
  simp only [Try.ntmps30, List.size_toArray, List.length_cons, List.length_nil, Nat.reduceAdd, Nat.reduceSub, Array.replicate_succ, Array.replicate_zero, List.push_toArray, List.append_toArray, List.nil_append, List.cons_append]
  gi_wp2_with fail
  obtain ⟨b0, hb0⟩ : ∃ b, b = w.heap.size := ⟨_, rfl⟩
  have btk := Boxed.new w 42 (.func (.func g) #[] #[])
  have hb1 : Below w.heap.size w (w.alloc (.cells #[.func (.func g) #[] #[]] 42)) := (Below.refl _ _).alloc (Nat.le_refl _) _
  generalize hw1 : w.alloc (.cells #[.func (.func g) #[] #[]] 42) = w1 at *
  clear hw1
  refine ⟨trivial, (callsIn_wide.2 (valid_b A C xs true VX.out w1 (by omega) (HX.out.below hb1).sl)).mono ?_⟩
  rintro e w2 ⟨rfl, hb⟩
  have hb2 := on_below hb1 hb
  replace btk := btk.kept (grown_below hb) (by simp)
  clear hb hb1
  gi_wp2_with fail
  refine ⟨trivial, (callsIn_wide.2 (valid_b B D ys true VY.out w2 (by omega) (HY.out.below hb2).sl)).mono ?_⟩
  rintro e w3 ⟨rfl, hb⟩
  have hb3 := on_below hb2 hb
  replace btk := btk.kept (grown_below hb) (by simp)
  have hp3' : w.heap.size < w3.heap.size := btk.lt
  clear hb hb2
  gi_wp2_with fail
  refine ⟨trivial, (callsIn_wide.2 (pieces_any A B xs.length C ys.length D _)).mono ?_⟩
  rintro e w' ⟨rfl, rfl⟩
  simp only [World.size_alloc, Nat.add_assoc, Nat.reduceAdd]
  generalize hV : ((((((w3.alloc (.cells #[.slice A xs.length C] 45)).alloc (.cells #[.slice B ys.length D] 45)).alloc (.cells #[.func (.func 35) #[.pointer (some ⟨w3.heap.size, 0, none⟩)] #[]] 35)).alloc (.cells #[.func (.func 35) #[.pointer (some ⟨w3.heap.size + 1, 0, none⟩)] #[]] 35)).alloc (.cells #[.slice none 0 0] 22)).alloc (.cells #[.slice A xs.length C] 22)).alloc (.cells #[.slice B ys.length D] 22) = V
  obtain ⟨hVs, hb4, bx0, bx1, bx2, bx3, bx4, bx5, bx6⟩ := boxes7 _ _ _ _ _ _ _ _ _ _ _ _ _ _ _ hV
  clear hV
  replace btk := btk.kept (grown_below hb4) (by simp)
  have hb5 := on_below hb3 hb4
  have hp3 : w.heap.size ≤ w3.heap.size := hb3.size
  generalize w3.heap.size = p at *
  clear hb3 hb4
  gi_wp2_with fail
  have HST := Lib.hid (pieces_stops 7 (by omega) (p + 5) (p + 6) A B C D xs ys hl hl2 V bx5.cell bx6.cell (HX.out.below hb5) (HY.out.below hb5))
  have HXL := Lib.hid (allE_ok xs ys)
  have HPC := Lib.hid (pieces (op := op) HO.out (vldS_iff.1 VX.out).2 (vldS_iff.1 VY.out).2 HXL.out.1 (HXL.out.2.1.imp fun h => Int.le_of_lt h))
  have HC0 := Lib.hid (show CI op xs ys (allE xs ys) w.heap.size p w.heap.size (.func (.func g) #[] #[]) w [] V from
    ⟨⟨btk, bx2, bx3⟩, ⟨⟨xs, wk_start HX.out hb5 (vldS_iff.1 VX.out).2 bx0, fun _ _ _ => rfl⟩, ⟨ys, wk_start HY.out hb5 (vldS_iff.1 VY.out).2 bx1, fun _ _ _ => rfl⟩⟩,
      ⟨_, [], bx4, World.ownsRow_nil _ _ _ _, Nat.le_refl _, fun _ hX => HPC.out.start (by rcases hX' : allE xs ys with _ | _ <;> simp_all)⟩, hb5⟩)
  generalize allE xs ys = X at *
  clear btk bx0 bx1 bx2 bx3 bx4 bx5 bx6
  refine wpIn_rangeFunc_ownH rfl (by omega) (gf := 40) (lb := #[.pointer (some ⟨p + 5, 0, none⟩), .pointer (some ⟨p + 6, 0, none⟩)]) rfl trivial (enters_of Try.func40 (by kernel_rfl) rfl)
    HST.out Kp.trans (fun W l o o' _ h1 h2 _ => Kp.put o' h1 h2) (Below.refl _ _) (fun _ => rfl)
    (CI op xs ys X w.heap.size p w.heap.size (.func (.func g) #[] #[]) w) (fun _ _ _ => False)
    (fun s W W' row hs hg hr => hs.aside hg (fun r e => (hr r e).2) (fun r e => by have := (hr r e).1; omega))
    (fun _ _ _ _ _ hs _ _ => hs) HC0.out
    (fun x a' W => ∃ Bx, Lc W Bx x.1 x.2 ∧ a' = { tmps := #[.slice A xs.length C, .slice B ys.length D, .func (.func g) #[] #[], undef, undef, .pointer (some ⟨w.heap.size, 0, none⟩), .slice none 0 0, .int .i64 0, .pointer (some ⟨p, 0, none⟩), .pointer (some ⟨p + 1, 0, none⟩), .pointer (some ⟨p + 2, 0, none⟩), .pointer (some ⟨p + 3, 0, none⟩), .pointer (some ⟨p + 4, 0, none⟩), .pointer (some ⟨Bx, 0, none⟩), .slice A xs.length C, .bool true, .bool false, .bool false, .slice B ys.length D, .bool true, .bool false, .bool false, .slice A xs.length C, .agg #[.slice A xs.length C], .slice B ys.length D, .agg #[.slice B ys.length D], .func (.func 35) #[.pointer (some ⟨p, 0, none⟩)] #[], .func (.func 35) #[.pointer (some ⟨p + 1, 0, none⟩)] #[], .slice A xs.length C, .slice B ys.length D, .func (.func 40) #[] #[.pointer (some ⟨p + 5, 0, none⟩), .pointer (some ⟨p + 6, 0, none⟩)], .agg #[.int .i64 x.1, .int .i64 x.2], undef, undef, undef, undef, undef, undef, undef, undef, undef, undef, undef, undef, undef, undef, undef, undef, undef], defers := [] }) (fun x a' s W W' row hs hg hr => let ⟨Bx, h1, h2⟩ := hs; ⟨Bx, h1.aside hg (fun r e => (hr r e).2), h2⟩) ?assign ?body ?done ?stop
  case assign =>
    rintro l pre x W K hi hK
    simp only [encP]
    gi_wp2
    exact hK _ _ ((KeepsOthers.alloc _ _).from _) (Kp.grown (World.grownBy_alloc W _ none) (fun g e => by cases e)) (hi.aside (World.grownBy_alloc W _ none) (aside_none _) (fun r e => by cases e)) ⟨W.heap.size, Lc.here W _ _ _, rfl⟩
  case body =>
    rintro l pre ⟨c, h⟩ a' W hl hr hI ⟨Bx, hLc, rfl⟩ hlt
    have hmx : Try.prog.follows .mixedOrders = true := by kernel_rfl
    clear hr HST HC0
    gi_wp2
    obtain ⟨ra, hwa, hga⟩ := hI.wy.wa
    obtain ⟨rb, hwb, hgb⟩ := hI.wy.wb
    obtain ⟨v, zs, hbx, how, hzl, hbd⟩ := hI.bt
    have HBS := Lib.hid (show BS w.heap.size p w.heap.size (.func (.func g) #[] #[]) w Bx c h ra rb zs v W W from ⟨hI.fx, hLc, hwa, hwb, hbx, how, hI.bl, KeepsOthers.refl _, Kp.refl _⟩)
    have HGA := Lib.hid hga
    have HGB := Lib.hid hgb
    have HBD := Lib.hid hbd
    clear hI hLc hwa hwb hga hgb hbx how hbd
    refine region_round (S := Ld p w.heap.size (.func (.func g) #[] #[]) Bx c) hmx (by kernel_rfl) (by rintro ⟨a, w, h⟩; exact h) HBS.out.drew.ld fun HL => ?_
    refine wpAnyH_take (i := 0) (v := .func (.func g) #[] #[]) rfl (by kernel_rfl) (by kernel_rfl) (by kernel_rfl) (fun _ _ _ h => h) (Or.inl ⟨by rfl, ?_⟩) HL ?_
    · rintro Wl ⟨s0, s1, s2, s3⟩
      go_simp
    simp only [Act.put, List.setIfInBounds_toArray, List.set_cons_zero, List.set_cons_succ]
    refine wpAnyH_take (i := 1) (v := .func (.func 35) #[.pointer (some ⟨p, 0, none⟩)] #[]) rfl (by kernel_rfl) (by kernel_rfl) (by kernel_rfl) (fun _ _ _ h => h) (Or.inl ⟨by rfl, ?_⟩) HL ?_
    · rintro Wl ⟨s0, s1, s2, s3⟩
      go_simp
    simp only [Act.put, List.setIfInBounds_toArray, List.set_cons_zero, List.set_cons_succ]
    refine wpAnyH_take (i := 2) (v := .pointer (some ⟨Bx, 0, none⟩)) rfl (by kernel_rfl) (by kernel_rfl) (by kernel_rfl) (fun _ _ _ h => h) (Or.inl ⟨by rfl, ?_⟩) HL ?_
    · rintro Wl ⟨s0, s1, s2, s3⟩
      go_simp
    simp only [Act.put, List.setIfInBounds_toArray, List.set_cons_zero, List.set_cons_succ]
    refine wpAnyH_take (i := 3) (v := .int .i64 c) rfl (by kernel_rfl) (by kernel_rfl) (by kernel_rfl) (fun _ _ _ h => h) (Or.inl ⟨by rfl, ?_⟩) HL ?_
    · rintro Wl ⟨s0, s1, s2, s3⟩
      go_simp
    simp only [Act.put, List.setIfInBounds_toArray, List.set_cons_zero, List.set_cons_succ]
    refine wpAnyH_take (i := 5) (v := .func (.func 35) #[.pointer (some ⟨p + 1, 0, none⟩)] #[]) rfl (by kernel_rfl) (by kernel_rfl) (by kernel_rfl) (fun _ _ _ h => h) (Or.inl ⟨by rfl, ?_⟩) HL ?_
    · rintro Wl ⟨s0, s1, s2, s3⟩
      go_simp
    simp only [Act.put, List.setIfInBounds_toArray, List.set_cons_zero, List.set_cons_succ]
    refine wpAnyH_take (i := 6) (v := .pointer (some ⟨Bx, 0, none⟩)) rfl (by kernel_rfl) (by kernel_rfl) (by kernel_rfl) (fun _ _ _ h => h) (Or.inl ⟨by rfl, ?_⟩) HL ?_
    · rintro Wl ⟨s0, s1, s2, s3⟩
      go_simp
    simp only [Act.put, List.setIfInBounds_toArray, List.set_cons_zero, List.set_cons_succ]
    refine wpAnyH_take (i := 7) (v := .int .i64 c) rfl (by kernel_rfl) (by kernel_rfl) (by kernel_rfl) (fun _ _ _ h => h) (Or.inl ⟨by rfl, ?_⟩) HL ?_
    · rintro Wl ⟨s0, s1, s2, s3⟩
      go_simp
    simp only [Act.put, List.setIfInBounds_toArray, List.set_cons_zero, List.set_cons_succ]
    have hlw : w.heap.size < p := by omega
    refine wpAnyH_ready (rs := [4]) (by kernel_rfl) (by simp) ?_
    refine AllReadyH.cons (o := _) rfl (fun K hK => ?_) AllReadyH.nil
    go_simp
    refine (has_any w.heap.size p ra c _ HBS.out.drew.wa).mono ?_
    rintro e W1 ⟨rfl, hg1, za, hza, haa⟩
    have HB1 := Lib.hid (HBS.out.drew.hasA hp3 hlw (by omega) hg1 hza)
    have HAA := Lib.hid haa
    clear hg1 hza haa HL
    refine hK.out _ _ HB1.out.ld fun HL => ?_
    clear hK K
    refine wpAnyH_ready (rs := [8]) (by kernel_rfl) (by simp) ?_
    refine AllReadyH.cons (o := _) rfl (fun K hK => ?_) AllReadyH.nil
    go_simp
    refine (has_any w.heap.size (p + 1) rb c _ HB1.out.wb).mono ?_
    rintro e W2 ⟨rfl, hg2, zb, hzb, hbb⟩
    have HB2 := Lib.hid (HB1.out.hasB hp3 hlw (by omega) hg2 hzb)
    have HBB := Lib.hid hbb
    clear hg2 hzb hbb HL
    refine hK.out _ _ HB2.out.ld fun HL => ?_
    clear hK K
    refine wpAnyH_ready (rs := [9]) (by kernel_rfl) (by simp) ?_
    refine AllReadyH.cons (o := _) rfl (fun K hK => ?_) AllReadyH.nil
    go_simp
    refine (HGG.out _ _ _).mono ?_
    rintro e W3 ⟨rfl, rfl⟩
    refine hK.out _ _ HB2.out.ld fun HL2 => ?_
    clear hK K HL HL2
    refine wpAnyH_done (by kernel_rfl) ?_ _
    cases hop : op (hasS ra c) (hasS rb c) with
    | false =>
      have HCI := Lib.hid (ci_next (h := h) HPC.out HXL.out.2.1 hlt HGA.out HGB.out HBD.out HAA.out HBB.out hzl (zs' := zs) (by rw [hop]; rfl) HB2.out.be)
      gi_wp2
      exact ⟨HB2.out.ko.from _, HB2.out.kp, HCI.out⟩
    | true =>
      have hc4 := HB2.out.bx.cell
      have hlc0 := HB2.out.lc.1.1
      have hlc1 := HB2.out.lc.1.2
      gi_wp2_with fail
      have hzz : zs.length ≤ 100000 := by have := HXL.out.2.2; omega
      refine ⟨trivial, (CallsIn.inRound l (callsIn_wide.2 (extend_any w.heap.size zs c h v W2 hzz HB2.out.bl.size HB2.out.ow))).mono ?_⟩
      rintro e W3 ⟨v', rfl, hown, hg⟩
      obtain ⟨A', C', rfl, -⟩ := own_form hown
      obtain ⟨hb', hbe⟩ := HB2.out.ext hp3 hlw (by omega) rfl hg hown
      have HCI := Lib.hid (ci_next (h := h) HPC.out HXL.out.2.1 hlt HGA.out HGB.out HBD.out HAA.out HBB.out hzl (zs' := ext zs c h) (by rw [hop]; rfl) hbe)
      have HBE := Lib.hid hbe
      have hc5 := hb'.cell
      have hf5 := hb'.frozen
      clear hc4 hlc0 hlc1 hg hown hb' hbe hzz
      gi_wp2
      exact ⟨HBE.out.ko.from _, HBE.out.kp, HCI.out⟩
  case done =>
    rintro D' ps W hD rfl hI hK
    obtain ⟨v, hbx, how⟩ := ci_done HO.out (vldS_iff.1 VX.out).2 (vldS_iff.1 VY.out).2 HPC.out hI.bt
    have hbl := hI.bl
    generalize cmb op xs ys = zs at *
    obtain ⟨A', C', hv, -⟩ := own_ls how
    subst hv
    have hcell := hbx.cell
    have HOW := Lib.hid (ownsRow_putObj how (.deferred none) hK rfl)
    have HBL := Lib.hid (show Below w.heap.size w (W.putObj D' (.deferred none)) from hbl.grown (grownBy_putObj' W D' _) hbl.size (fun k e => by cases e; omega))
    clear hbl how hbx hI
    by_cases hz : zs.length ≤ 1000
    · gi_wp2
      refine ⟨by simp, .inl ⟨_, _, rfl, run_takeDeferred hK, ?_⟩⟩
      obtain ⟨A2, C2, hv, hls⟩ := own_ls HOW.out
      injection hv with e1 e2 e3
      subst e1 e3
      exact ⟨_, results_tmp2 rfl _ _ _, .inl ⟨hz, _, _, rfl, hls, HBL.out⟩⟩
    · gi_wp2
      refine ⟨by simp, .inl ⟨_, _, rfl, run_takeDeferred hK, ?_⟩⟩
      exact ⟨_, results_tmp2 rfl _ _ _, .inr ⟨by omega, rfl, HBL.out⟩⟩
  case stop =>
    rintro D' c pre W _ _ h _
    exact h.elim
end Go.Proofs.Ytgdgpfpihpofdaa
