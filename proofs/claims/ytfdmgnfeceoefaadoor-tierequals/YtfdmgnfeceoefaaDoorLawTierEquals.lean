/- Layer 9, TierEquals: for every two plans: they are one, by the program, just if all of both is the same. No condition beyond the given row's. -/
import Derived.Test.YtfdmgnfeceoefaaDoorRows
import Derived.Test.YtfdmgnfeceoefaaDoorTrFrame
namespace Go.Proofs.YtfdmgnfeceoefaaDoor.tierEquals
open Go Go.ChangeShapes Go.WideShapes Go.ChangeAt Go.RowKit Go.Sort Tr
open Go.ChangeMaps (open_string shut_string)
set_option linter.unusedVariables false

set_option maxRecDepth 100000 in
set_option maxHeartbeats 6400000 in
theorem walk (g0 i0 : Int) (a0 : Option Addr) (len0 cap0 : Nat) (g1 i1 : Int) (a1 : Option Addr) (len1 cap1 : Nat) (w : World) (hv : Vars w) (wg0 : (Lit.int .i64 g0).wf = true) (wi0 : (Lit.int .i64 i0).wf = true) (w0 : IsLayers w a0 len0 cap0) (wg1 : (Lit.int .i64 g1).wf = true) (wi1 : (Lit.int .i64 i1).wf = true) (w1 : IsLayers w a1 len1 cap1) :
    Calls Tryd.prog 7 #[.agg #[.int .i64 g0, .int .i64 i0, .slice a0 len0 cap0], .agg #[.int .i64 g1, .int .i64 i1, .slice a1 len1 cap1]] w fun e w' => e = .returned (.bool true) ∧ Below w.heap.size w w' := by
  obtain ⟨ls, rfl, hp, hb⟩ := w0
  obtain ⟨ms, rfl, hq, hc⟩ := w1
  have HV : Hid (Vars w) := hv
  have HP : Hid (Ps w a0 ls) := hp
  have HQ : Hid (Ps w a1 ms) := hq
  clear hv hp hq wg0 wi0 wg1 wi1
  have ml : ls.length ≤ maxLen := by unfold maxLen; omega
  have mm : ms.length ≤ maxLen := by unfold maxLen; omega
  by_cases h1 : 100 < ls.length
  · have g1' : decide (100 < (ls.length : Int)) = true := decide_eq_true (by omega)
    go_enter Tryd.func7, Tryd.ntmps7
    go_wp2_with (go_at_call 8; refine (awake_any _ (HV.out.keep ((box_over _ _).trans ((box_over _ _).mono (by simp))))).mono ?_; rintro e w1 ⟨rfl, hb⟩; have B1 : Hid (Below w.heap.size w w1) := ((box_over _ _).trans ((box_over _ _).mono (by simp))).trans (hb.mono (by simp; omega)); clear hb)
    go_ret
    exact ⟨rfl, B1.out⟩
  · have g1' : decide (100 < (ls.length : Int)) = false := decide_eq_false (by omega)
    by_cases h2 : 100 < ms.length
    · have g2' : decide (100 < (ms.length : Int)) = true := decide_eq_true (by omega)
      go_enter Tryd.func7, Tryd.ntmps7
      go_wp2_with (go_at_call 8; refine (awake_any _ (HV.out.keep ((box_over _ _).trans ((box_over _ _).mono (by simp))))).mono ?_; rintro e w1 ⟨rfl, hb⟩; have B1 : Hid (Below w.heap.size w w1) := ((box_over _ _).trans ((box_over _ _).mono (by simp))).trans (hb.mono (by simp; omega)); clear hb)
      go_ret
      exact ⟨rfl, B1.out⟩
    · have g2' : decide (100 < (ms.length : Int)) = false := decide_eq_false (by omega)
      obtain ⟨r, hr⟩ : ∃ r, same g0 i0 ls g1 i1 ms = r := ⟨_, rfl⟩
      have HR : Hid (same g0 i0 ls g1 i1 ms = r) := hr
      have HR2 : Hid (same g1 i1 ms g0 i0 ls = r) := by show _ = _; rw [same_comm]; exact hr
      clear hr
      go_enter Tryd.func7, Tryd.ntmps7
      go_wp2
      obtain ⟨u, hu⟩ : ∃ u, (w.alloc (.cells #[.int .i64 g0, .int .i64 i0, .slice a0 ls.length cap0] 24)).alloc (.cells #[.int .i64 g1, .int .i64 i1, .slice a1 ms.length cap1] 24) = u := ⟨_, rfl⟩
      have U : Hid (Below w.heap.size w u) := by rw [← hu]; exact (box_over _ _).trans ((box_over _ _).mono (by simp))
      have NM : u.cell? ⟨w.heap.size, 0, none⟩ = some (.int .i64 g0) ∧ u.cell? ⟨w.heap.size, 1, none⟩ = some (.int .i64 i0) ∧ u.cell? ⟨w.heap.size, 2, none⟩ = some (.slice a0 ls.length cap0) ∧ u.cell? ⟨w.heap.size + 1, 0, none⟩ = some (.int .i64 g1) ∧ u.cell? ⟨w.heap.size + 1, 1, none⟩ = some (.int .i64 i1) ∧ u.cell? ⟨w.heap.size + 1, 2, none⟩ = some (.slice a1 ms.length cap1) := by rw [← hu]; simp
      have zu : w.heap.size + 1 < u.heap.size := by rw [← hu]; simp
      rw [hu]
      clear hu
      have KS : Hid (∀ w', Below u.heap.size u w' → (w'.cell? ⟨w.heap.size, 0, none⟩ = some (.int .i64 g0) ∧ w'.cell? ⟨w.heap.size, 1, none⟩ = some (.int .i64 i0) ∧ w'.cell? ⟨w.heap.size, 2, none⟩ = some (.slice a0 ls.length cap0) ∧ w'.cell? ⟨w.heap.size + 1, 0, none⟩ = some (.int .i64 g1) ∧ w'.cell? ⟨w.heap.size + 1, 1, none⟩ = some (.int .i64 i1) ∧ w'.cell? ⟨w.heap.size + 1, 2, none⟩ = some (.slice a1 ms.length cap1)) ∧ Hid (Below u.heap.size u w')) := fun w' hb => by
        obtain ⟨n0, n1, n2, n3, n4, n5⟩ := NM
        refine ⟨⟨?_, ?_, ?_, ?_, ?_, ?_⟩, hb⟩
        · rw [hb.cell (p := ⟨w.heap.size, 0, none⟩) (show w.heap.size < u.heap.size by omega)]; exact n0
        · rw [hb.cell (p := ⟨w.heap.size, 1, none⟩) (show w.heap.size < u.heap.size by omega)]; exact n1
        · rw [hb.cell (p := ⟨w.heap.size, 2, none⟩) (show w.heap.size < u.heap.size by omega)]; exact n2
        · rw [hb.cell (p := ⟨w.heap.size + 1, 0, none⟩) zu]; exact n3
        · rw [hb.cell (p := ⟨w.heap.size + 1, 1, none⟩) zu]; exact n4
        · rw [hb.cell (p := ⟨w.heap.size + 1, 2, none⟩) zu]; exact n5
      clear NM
      go_region_held3 (fun w' => (w'.cell? ⟨w.heap.size, 0, none⟩ = some (.int .i64 g0) ∧ w'.cell? ⟨w.heap.size, 1, none⟩ = some (.int .i64 i0) ∧ w'.cell? ⟨w.heap.size, 2, none⟩ = some (.slice a0 ls.length cap0) ∧ w'.cell? ⟨w.heap.size + 1, 0, none⟩ = some (.int .i64 g1) ∧ w'.cell? ⟨w.heap.size + 1, 1, none⟩ = some (.int .i64 i1) ∧ w'.cell? ⟨w.heap.size + 1, 2, none⟩ = some (.slice a1 ms.length cap1)) ∧ Hid (Below u.heap.size u w'))
        (first
          | exact KS.out _ ((Below.refl u.heap.size u).drew)
          | exact KS.out _ y7.out
          | exact KS.out _ y6.out
          | exact KS.out _ y5.out
          | exact KS.out _ y4.out
          | exact KS.out _ y3.out
          | exact KS.out _ y2.out
          | exact KS.out _ y1.out
          | assumption)
        (first
          | (go_at_call 15; (with_reducible refine (equal_any g0 i0 g1 i1 a0 a1 cap0 cap1 ls ms r HR.out u.drew (HP.out.keep (below_then U.out ((Below.refl u.heap.size u).drew))) (HQ.out.keep (below_then U.out ((Below.refl u.heap.size u).drew))) ml).mono ?_); rintro e v1 ⟨rfl, hb⟩; have y1 : Hid (Below u.heap.size u v1) := ((Below.refl u.heap.size u).drew).trans hb; clear hb)
          | (go_at_call 11; (with_reducible refine (ref_any g0 i0 a0 cap0 ls v1 (HP.out.keep (below_then U.out y1.out)) (by omega)).mono ?_); rintro e v2 ⟨q2, r2, rfl, hu, hb⟩; have y2 : Hid (Below u.heap.size u v2) := below_then y1.out hb; have U2 : Hid (Ps v2 q2 ls) := hu; clear hb hu)
          | (go_at_call 11; (with_reducible refine (ref_any g1 i1 a1 cap1 ms v2 (HQ.out.keep (below_then U.out y2.out)) (by omega)).mono ?_); rintro e v3 ⟨q3, r3, rfl, hu, hb⟩; have y3 : Hid (Below u.heap.size u v3) := below_then y2.out hb; have U3 : Hid (Ps v3 q3 ms) := hu; have V2 : Hid (Ps v3 q2 ls) := U2.out.keep hb; clear hb hu)
          | (go_at_call 16; (with_reducible refine (refSame_any g0 i0 g1 i1 q2 q3 r2 r3 ls ms r HR.out v3 V2.out U3.out ml).mono ?_); rintro e v4 ⟨rfl, hb⟩; have y4 : Hid (Below u.heap.size u v4) := below_then y3.out hb; clear hb)
          | (go_at_call 15; (with_reducible refine (equal_any g1 i1 g0 i0 a1 a0 cap1 cap0 ms ls r HR2.out v4 (HQ.out.keep (below_then U.out y4.out)) (HP.out.keep (below_then U.out y4.out)) mm).mono ?_); rintro e v5 ⟨rfl, hb⟩; have y5 : Hid (Below u.heap.size u v5) := below_then y4.out hb; clear hb)
          | (go_at_call 15; (with_reducible refine (equal_any g0 i0 g1 i1 a0 a1 cap0 cap1 ls ms r HR.out v5 (HP.out.keep (below_then U.out y5.out)) (HQ.out.keep (below_then U.out y5.out)) ml).mono ?_); rintro e v6 ⟨rfl, hb⟩; have y6 : Hid (Below u.heap.size u v6) := below_then y5.out hb; clear hb)
          | (go_at_call 8; (with_reducible refine (awake_any v6 (HV.out.keep (below_then U.out y6.out))).mono ?_); rintro e v7 ⟨rfl, hb⟩; have y7 : Hid (Below u.heap.size u v7) := below_then y6.out hb; clear hb))
      all_goals
        go_wp2
        go_ret
        exact ⟨rfl, below_then U.out y7.out⟩

set_option maxRecDepth 100000 in
set_option maxHeartbeats 3200000 in
theorem lifted (os : Os) (started : os.Started) (H : Type) (enc : TypeId × Value → H) :
    ReturnsInHanded {} Tryd.checked os 7 .any (fun w args => (Rows.tierEqualsSpec.pre enc Tryd.prog Tryd.f7 Rows.tierEqualsRow.domain false w args ∧ laidMetH Tryd.prog laidAll w) ∧ sizedMet enc Tryd.prog Tryd.f7 (OpenSpec.ofChange Rows.tierEqualsSpec) false w args)
      (Rows.tierEqualsSpec.post enc Tryd.prog Tryd.f7 false true false false) := by
  refine wrap_listed (C := Tryd.checked) (X := fun w _ => laidMetH Tryd.prog laidAll w) (fun _ _ _ hh h => h.of_heap hh) ownD started (by kernel_rfl) Tryd.func7
    (ChangeSpec.witness_shaped (enc := enc) (C := Tryd.checked) (os := os) (X := fun w _ => laidMetH Tryd.prog laidAll w) false (World.doorLaid Tryd.prog 62 os) #[.agg #[.int .i64 0, .int .i64 0, .slice none 0 0], .agg #[.int .i64 0, .int .i64 0, .slice none 0 0]] 8 rfl (World.shaped_of_RefB (by kernel_rfl) (by kernel_rfl)) (by kernel_rfl) (by kernel_rfl) (by kernel_rfl) (door_met os _)) ?_
  intro W base args ds gs before hval0 hW hsz0 hL hsh
  have hsz : (DataW.weightsEach Tryd.prog (Tryd.f7.params.toList ++ Rows.tierEqualsSpec.plain.varTypes Tryd.prog) (ds ++ gs)).all (· ≤ reachBytes) = true := hsz0
  clear hsz0
  have hval : ∀ (j : Nat) t v, Tryd.f7.params[j]? = some t → args[j]? = some v → Value.okWide Tryd.prog W .any base t v := hval0
  have hW' := hW
  obtain ⟨p, q, hA0, hV, rfl, hfz, hnd⟩ := hW
  have hA : DataW.TrodAll enc Tryd.prog W 0 (fun _ => true) true Tryd.f7.params.toList args.toList ds p := hA0
  rw [Tryd.params7] at hA hval hsz
  obtain ⟨v0, vs0, d0, ds0, p0, q0, hargs, rfl, rfl, h0, r0⟩ := trodAll_cons hA
  obtain ⟨v1, vs1, d1, ds1, p1, q1, rfl, rfl, rfl, h1, r1⟩ := trodAll_cons r0
  obtain ⟨rfl, rfl, rfl⟩ := trodAll_nil r1
  obtain rfl : args = #[v0, v1] := by cases args; simp_all
  obtain ⟨rfl, rfl⟩ := trodVars_none hV
  obtain ⟨cs0, rfl, hsz0⟩ := okWide_struct Tryd.underlying24 (hval 0 24 v0 rfl rfl)
  have k0 := h0
  have lt0 : ∀ x ∈ p0, x.block < W.heap.size := by obtain ⟨m, hm⟩ := k0; exact DataW.trod_lt m _ _ _ hm
  rw [show Tryd.prog.cellsOf 24 = 3 by kernel_rfl] at hsz0
  obtain ⟨c00, c01, c02, rfl⟩ := cells3 hsz0
  obtain ⟨fuel0, hf0⟩ := h0
  obtain ⟨g0, i0, a0, len0, cap0, rfl, rfl, rfl, wg0, wi0, ⟨ls0, hl0, hp0⟩, -, d00, d01, d02, ed0, hd0⟩ := open_plan (q0 := c00) (q1 := c01) (q2 := c02) hf0
  have ed0 : d0 = .agg [d00, d01, d02] := ed0
  have w0 : IsLayers W a0 len0 cap0 := ⟨ls0, hl0, hp0, plan_sized hsz (j := 0) rfl (by rw [ed0]; rfl) hd0⟩
  obtain ⟨cs1, rfl, hsz1⟩ := okWide_struct Tryd.underlying24 (hval 1 24 v1 rfl rfl)
  have k1 := h1
  have lt1 : ∀ x ∈ p1, x.block < W.heap.size := by obtain ⟨m, hm⟩ := k1; exact DataW.trod_lt m _ _ _ hm
  rw [show Tryd.prog.cellsOf 24 = 3 by kernel_rfl] at hsz1
  obtain ⟨c10, c11, c12, rfl⟩ := cells3 hsz1
  obtain ⟨fuel1, hf1⟩ := h1
  obtain ⟨g1, i1, a1, len1, cap1, rfl, rfl, rfl, wg1, wi1, ⟨ls1, hl1, hp1⟩, -, d10, d11, d12, ed1, hd1⟩ := open_plan (q0 := c10) (q1 := c11) (q2 := c12) hf1
  have ed1 : d1 = .agg [d10, d11, d12] := ed1
  have w1 : IsLayers W a1 len1 cap1 := ⟨ls1, hl1, hp1, plan_sized hsz (j := 1) rfl (by rw [ed1]; rfl) hd1⟩
  clear hA0 hval0
  refine (walk g0 i0 a0 len0 cap0 g1 i1 a1 len1 cap1 W (vars_of hL hsh) wg0 wi0 w0 wg1 wi1 w1).mono fun e W' ⟨he, bel⟩ => ?_
  subst he
  exact ⟨_, rfl, _, _, _, [], _, [], hW', trodAll_mk1 (shut_bool Tryd.underlying4 _), (trodAll_cons_mk (Below.trod laidOutD (by kernel_rfl) (of_decide_eq_true (by kernel_rfl)) k0 bel lt0) (trodAll_cons_mk (Below.trod laidOutD (by kernel_rfl) (of_decide_eq_true (by kernel_rfl)) k1 bel lt1) trodAll_mk0)), rfl, bel.frame _, fun h => by cases h⟩

theorem over : Rows.tierEqualsRow.holds Tryd.pinned (OpenSpec.ofChange Rows.tierEqualsSpec) :=
  OpenClaim.holds_of_wide 7 Tryd.f7 rfl rfl rfl rfl rfl rfl rfl ⟨rfl, rfl, rfl, rfl, rfl⟩ rfl rfl rfl rfl rfl (by kernel_rfl) Tryd.func7 (by kernel_rfl)
    (of_decide_eq_true (by kernel_rfl)) (by unfold Func.isWrapper; first | (rw [if_pos (by decide +kernel)]; kernel_rfl) | (rw [if_neg (by decide +kernel)]; exact ⟨rfl, rfl⟩))
    (fun os started H enc _ => lifted os started H enc)

theorem card : Rows.TierEqualsCardSaid :=
  Claim7.holds_tied_plain_at .later [] [.data, .data, .data, .sentinel, .sentinel] true (true, "b919752249d168aae7c4bdc5ba172f57bbd34e8d34366b9d2ede4122e7b0a920") true
    over (fun _ h => by cases h) (by kernel_rfl) (fun _ h => by cases h) tierEquals_row_tie rfl ⟨rfl, rfl⟩ (by kernel_rfl) rfl
    (fun f fn hf hfn => by
      obtain rfl : f = 7 := Option.some.inj ((show Tryd.prog.funcNamed "credenza/credenzalaw09.TierEquals" = some 7 by kernel_rfl).symm.trans hf) |>.symm
      obtain rfl : fn = Tryd.f7 := (Option.some.inj (Tryd.func7.symm.trans hfn)).symm
      exact ⟨by kernel_rfl, fun j t ht => by
        rw [Tryd.params7] at ht
        have hm : t ∈ [24, 24] := by simpa using Array.mem_of_getElem? ht
        have hall : ([24, 24].all fun u => !Tryd.prog.wantsStandIn u) = true := by kernel_rfl
        exact (show Tryd.prog.wantsStandIn t = false by simpa using List.all_eq_true.1 hall t hm)⟩)
    (by kernel_rfl)
end Go.Proofs.YtfdmgnfeceoefaaDoor.tierEquals

namespace Go.Proofs.YtfdmgnfeceoefaaDoor
theorem tierEquals_holds : Rows.TierEqualsCardSaid := tierEquals.card
#print axioms tierEquals_holds
end Go.Proofs.YtfdmgnfeceoefaaDoor
