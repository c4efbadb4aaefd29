/- For every plan and every number of tokens just so many groups are quantized as the document says, as the law TierGroups says it. -/
import Derived.Test.YtfdmgnfeceoefaaDoorRows
import Derived.Test.YtfdmgnfeceoefaaDoorTrRises
namespace Go.Proofs.YtfdmgnfeceoefaaDoor.tierGroups
open Go Go.ChangeShapes Go.WideShapes Go.ChangeAt Go.RowKit Go.Sort Tr
open Go.ChangeMaps (open_string shut_string)
set_option linter.unusedVariables false

set_option maxRecDepth 100000 in
set_option maxHeartbeats 3200000 in
theorem walk (g0 i0 : Int) (a0 : Option Addr) (len0 cap0 : Nat) (a1 : Int) (w : World) (hv : Vars w) (wg0 : (Lit.int .i64 g0).wf = true) (wi0 : (Lit.int .i64 i0).wf = true) (w0 : IsLayers w a0 len0 cap0) (w1 : (Lit.int .i64 a1).wf = true) :
    Calls Tryd.prog 5 #[.agg #[.int .i64 g0, .int .i64 i0, .slice a0 len0 cap0], .int .i64 a1] w fun e w' => e = .returned (.bool true) ∧ Below w.heap.size w w' := by
  obtain ⟨ls, rfl, hp, hb⟩ := w0
  have HV : Hid (Vars w) := hv
  have HP : Hid (Ps w a0 ls) := hp
  clear hv hp wg0 wi0
  have ml : ls.length ≤ maxLen := by unfold maxLen; omega
  obtain ⟨r, hr⟩ : ∃ r, right g0 i0 ls = r := ⟨_, rfl⟩
  by_cases hC : r ≠ 0
  · have HR : Hid (right g0 i0 ls = r) := hr
    have hD : (r != 0) = true := by simp [hC]
    clear hr hC
    go_enter Tryd.func5, Tryd.ntmps5
    go_wp2_with (first
      | (go_at_call 11; refine (ref_any g0 i0 a0 cap0 ls _ (HP.out.keep (box_over _ _)) hb).mono ?_; rintro e v1 ⟨q1, c1, rfl, hq, hbb⟩; have B1 : Hid (Below w.heap.size w v1) := below_then (box_over _ _) hbb; have Q1 : Hid (Ps v1 q1 ls) := hq; have n0 : v1.cell? ⟨w.heap.size, 0, none⟩ = some (.int .i64 g0) := (by rw [hbb.cell (p := ⟨w.heap.size, 0, none⟩) (by simp)]; simp); have n1 : v1.cell? ⟨w.heap.size, 1, none⟩ = some (.int .i64 i0) := (by rw [hbb.cell (p := ⟨w.heap.size, 1, none⟩) (by simp)]; simp); have n2 : v1.cell? ⟨w.heap.size, 2, none⟩ = some (.slice a0 ls.length cap0) := (by rw [hbb.cell (p := ⟨w.heap.size, 2, none⟩) (by simp)]; simp); have z1 : w.heap.size < v1.heap.size := (by have := hbb.size; simp at this; omega); clear hbb hq)
      | (go_at_call 10; refine (refRight_any g0 i0 q1 c1 ls _ HR.out v1 Q1.out ml).mono ?_; rintro e v2 ⟨rfl, hbb⟩; have B2 : Hid (Below w.heap.size w v2) := below_then B1.out hbb; have m0 : v2.cell? ⟨w.heap.size, 0, none⟩ = some (.int .i64 g0) := (by rw [hbb.cell (p := ⟨w.heap.size, 0, none⟩) z1]; exact n0); have m1 : v2.cell? ⟨w.heap.size, 1, none⟩ = some (.int .i64 i0) := (by rw [hbb.cell (p := ⟨w.heap.size, 1, none⟩) z1]; exact n1); have m2 : v2.cell? ⟨w.heap.size, 2, none⟩ = some (.slice a0 ls.length cap0) := (by rw [hbb.cell (p := ⟨w.heap.size, 2, none⟩) z1]; exact n2); have z2 : w.heap.size < v2.heap.size := (by have := hbb.size; omega); clear hbb n0 n1 n2 z1)
      | (go_at_call 8; refine (awake_any v2 (HV.out.keep B2.out)).mono ?_; rintro e v3 ⟨rfl, hbb⟩; have B3 : Hid (Below w.heap.size w v3) := below_then B2.out hbb; clear hbb))
    go_ret
    exact ⟨rfl, B3.out⟩
  · obtain rfl : r = 0 := by omega
    clear hC
    have HR : Hid (right g0 i0 ls = 0) := hr
    obtain ⟨g1, g2, j1, j2, -, -, -⟩ := right_zero hr
    clear hr
    obtain ⟨A, hA⟩ : ∃ A, grp g0 i0 a1 = A := ⟨_, rfl⟩
    obtain ⟨T, hT⟩ : ∃ T, near a1 = T := ⟨_, rfl⟩
    obtain ⟨X, hX⟩ : ∃ X, A * g0 = X := ⟨_, rfl⟩
    obtain ⟨P, hP⟩ : ∃ P, T - X = P := ⟨_, rfl⟩
    obtain ⟨K, hK⟩ : ∃ K, (if i0 < T then i0 else T) = K := ⟨_, rfl⟩
    have bA := grp_bd (t := a1) g1 j1
    have bT := near_bd a1
    rw [hA, hT, show (A + 1) * g0 = A * g0 + g0 by rw [Int.add_mul]; omega, hX] at bA
    rw [hT] at bT
    obtain ⟨t0, t1⟩ := bT
    obtain ⟨bA1, bA2, bA3, bA4⟩ := bA
    have bX : 0 ≤ X := by rw [← hX]; exact Int.mul_nonneg bA1 (by omega)
    have hd : K ≤ P ∧ P ≤ i0 + g0 - 1 ∧ 0 ≤ P ∧ P ≤ 1024 ∧ X ≤ 1024 := by
      unfold over at bA3 bA4
      rw [← hK]
      split <;> split at bA3 <;> split at bA4 <;> omega
    obtain ⟨p1, p2, p3, p4, x1⟩ := hd
    have d1 : decide (K ≤ P) = true := decide_eq_true p1
    have d2 : decide (P ≤ i0 + g0 - 1) = true := decide_eq_true p2
    have hTT : grp g0 i0 T = A := by rw [← hA]; unfold grp; rw [near_same t0 t1, hT]
    have hm : min (max a1 0) 1024 = T := by rw [← hT]; unfold near; split <;> (try split) <;> omega
    have hk2 : min T i0 = K := by rw [← hK]; split <;> omega
    have e1 : IntKind.i64.wrap X = X := i64_same9 (by omega) (by omega)
    have e2 : IntKind.i64.wrap P = P := i64_same9 (by omega) (by omega)
    have e3 : IntKind.i64.wrap (i0 + g0) = i0 + g0 := i64_same9 (by omega) (by omega)
    have e4 : IntKind.i64.wrap (i0 + g0 - 1) = i0 + g0 - 1 := i64_same9 (by omega) (by omega)
    have CA := fun (v : World) => groups_any g0 i0 a1 A a0 ls.length cap0 g1 g2 j1 j2 hA v
    have CP := fun (v : World) => plain_any g0 i0 a1 P a0 ls.length cap0 g1 g2 j1 j2 (by rw [hT, hA, hX]; exact hP) v
    have CM := fun (v : World) => most_any g0 i0 (.slice a0 ls.length cap0) g1 g2 j1 j2 v
    have CW := fun (u v : World) (h1 : Below w.heap.size w u) (h2 : Below u.heap.size u v) => awake_any v (HV.out.keep (below_then h1 h2))
    have HT : Hid (grp g0 i0 T = A) := hTT
    have HX : Hid (A * g0 = X) := hX
    have HPx : Hid (T - X = P) := hP
    have HM : Hid (min (max a1 0) 1024 = T) := hm
    have HK : Hid ((if i0 < T then i0 else T) = K ∧ min T i0 = K) := ⟨hK, hk2⟩
    clear hA hT hTT bA3 bA4 p1 p2 hX hP hm hK hk2
    go_enter Tryd.func5, Tryd.ntmps5
    go_wp2_with (first
      | (go_at_call 11; refine (ref_any g0 i0 a0 cap0 ls _ (HP.out.keep (box_over _ _)) hb).mono ?_; rintro e v1 ⟨q1, c1, rfl, hq, hbb⟩; have B1 : Hid (Below w.heap.size w v1) := below_then (box_over _ _) hbb; have Q1 : Hid (Ps v1 q1 ls) := hq; have n0 : v1.cell? ⟨w.heap.size, 0, none⟩ = some (.int .i64 g0) := (by rw [hbb.cell (p := ⟨w.heap.size, 0, none⟩) (by simp)]; simp); have n1 : v1.cell? ⟨w.heap.size, 1, none⟩ = some (.int .i64 i0) := (by rw [hbb.cell (p := ⟨w.heap.size, 1, none⟩) (by simp)]; simp); have n2 : v1.cell? ⟨w.heap.size, 2, none⟩ = some (.slice a0 ls.length cap0) := (by rw [hbb.cell (p := ⟨w.heap.size, 2, none⟩) (by simp)]; simp); have z1 : w.heap.size < v1.heap.size := (by have := hbb.size; simp at this; omega); clear hbb hq)
      | (go_at_call 10; refine (refRight_any g0 i0 q1 c1 ls _ HR.out v1 Q1.out ml).mono ?_; rintro e v2 ⟨rfl, hbb⟩; have B2 : Hid (Below w.heap.size w v2) := below_then B1.out hbb; have m0 : v2.cell? ⟨w.heap.size, 0, none⟩ = some (.int .i64 g0) := (by rw [hbb.cell (p := ⟨w.heap.size, 0, none⟩) z1]; exact n0); have m1 : v2.cell? ⟨w.heap.size, 1, none⟩ = some (.int .i64 i0) := (by rw [hbb.cell (p := ⟨w.heap.size, 1, none⟩) z1]; exact n1); have m2 : v2.cell? ⟨w.heap.size, 2, none⟩ = some (.slice a0 ls.length cap0) := (by rw [hbb.cell (p := ⟨w.heap.size, 2, none⟩) z1]; exact n2); have z2 : w.heap.size < v2.heap.size := (by have := hbb.size; omega); clear hbb n0 n1 n2 z1))
    have k0 := cell_regrown m0
    have k1 := cell_regrown m1
    have k2 := cell_regrown m2
    have cA := reg_of (u := v2) fun v _ => CA v
    have cP := reg_of (u := v2) fun v _ => CP v
    refine wp_region_quiet_below (by kernel_rfl) (by kernel_rfl) ?_
    repeat (quiet_step (first | with_reducible exact cA _ _ | with_reducible exact cP _ _))
    refine wpQuiet_nil ?_
    intro v3 hw'
    have b3 : Below v2.heap.size v2 v3 := by
      obtain ⟨⟨dq, osq⟩, hw''⟩ := hw'
      rw [hw'']; exact below_regrown _ _ _
    have B3 : Hid (Below w.heap.size w v3) := below_then B2.out b3
    have l0 : v3.cell? ⟨w.heap.size, 0, none⟩ = some (.int .i64 g0) := (by rw [b3.cell (p := ⟨w.heap.size, 0, none⟩) z2]; exact m0)
    have l1 : v3.cell? ⟨w.heap.size, 1, none⟩ = some (.int .i64 i0) := (by rw [b3.cell (p := ⟨w.heap.size, 1, none⟩) z2]; exact m1)
    have l2 : v3.cell? ⟨w.heap.size, 2, none⟩ = some (.slice a0 ls.length cap0) := (by rw [b3.cell (p := ⟨w.heap.size, 2, none⟩) z2]; exact m2)
    have z3 : w.heap.size < v3.heap.size := (by have := b3.size; omega)
    clear hw' b3 k0 k1 k2 cA cP m0 m1 m2
    have hX := HX.out
    have hP := HPx.out
    have hm := HM.out
    go_wp2_with (first
      | (go_at_call 11; refine (ref_any g0 i0 a0 cap0 ls v3 (HP.out.keep B3.out) hb).mono ?_; rintro e v4 ⟨q4, c4, rfl, hq, hbb⟩; have B4 : Hid (Below w.heap.size w v4) := below_then B3.out hbb; have m0 : v4.cell? ⟨w.heap.size, 0, none⟩ = some (.int .i64 g0) := (by rw [hbb.cell (p := ⟨w.heap.size, 0, none⟩) z3]; exact l0); have m1 : v4.cell? ⟨w.heap.size, 1, none⟩ = some (.int .i64 i0) := (by rw [hbb.cell (p := ⟨w.heap.size, 1, none⟩) z3]; exact l1); have m2 : v4.cell? ⟨w.heap.size, 2, none⟩ = some (.slice a0 ls.length cap0) := (by rw [hbb.cell (p := ⟨w.heap.size, 2, none⟩) z3]; exact l2); have z4 : w.heap.size < v4.heap.size := (by have := hbb.size; omega); clear hbb hq l0 l1 l2)
      | (go_at_call 20; refine (refGroups_any g0 i0 T A q4 ls.length c4 g1 g2 j1 j2 t0 t1 HT.out v4).mono ?_; rintro e v5 ⟨rfl, hbb⟩; have B5 : Hid (Below w.heap.size w v5) := below_then B4.out hbb; have l0 : v5.cell? ⟨w.heap.size, 0, none⟩ = some (.int .i64 g0) := (by rw [hbb.cell (p := ⟨w.heap.size, 0, none⟩) z4]; exact m0); have l1 : v5.cell? ⟨w.heap.size, 1, none⟩ = some (.int .i64 i0) := (by rw [hbb.cell (p := ⟨w.heap.size, 1, none⟩) z4]; exact m1); have l2 : v5.cell? ⟨w.heap.size, 2, none⟩ = some (.slice a0 ls.length cap0) := (by rw [hbb.cell (p := ⟨w.heap.size, 2, none⟩) z4]; exact m2); clear hbb m0 m1 m2))
    have k0 := cell_regrown l0
    have k1 := cell_regrown l1
    have k2 := cell_regrown l2
    have cM := reg_of (u := v5) fun v _ => CM v
    have cW := reg_of (u := v5) fun v h => CW v5 v B5.out h
    have hK := HK.out.1
    have hk2 := HK.out.2
    clear CA CP CM CW hX hP hm
    refine wp_region_quiet_below (by kernel_rfl) (by kernel_rfl) ?_
    repeat (quiet_step (first | with_reducible exact cM _ _ | with_reducible exact cW _ _))
    refine wpQuiet_nil ?_
    intro v6 hw'
    have b6 : Below v5.heap.size v5 v6 := by
      obtain ⟨⟨dq, osq⟩, hw''⟩ := hw'
      rw [hw'']; exact below_regrown _ _ _
    have B6 : Hid (Below w.heap.size w v6) := below_then B5.out b6
    clear hw' b6 
    go_wp2
    go_ret
    exact ⟨rfl, B6.out⟩

set_option maxRecDepth 100000 in
set_option maxHeartbeats 3200000 in
theorem lifted (os : Os) (started : os.Started) (H : Type) (enc : TypeId × Value → H) :
    ReturnsInHanded {} Tryd.checked os 5 .any (fun w args => (Rows.tierGroupsSpec.pre enc Tryd.prog Tryd.f5 Rows.tierGroupsRow.domain false w args ∧ laidMetH Tryd.prog laidAll w) ∧ sizedMet enc Tryd.prog Tryd.f5 (OpenSpec.ofChange Rows.tierGroupsSpec) false w args)
      (Rows.tierGroupsSpec.post enc Tryd.prog Tryd.f5 false true false false) := by
  refine wrap_listed (C := Tryd.checked) (X := fun w _ => laidMetH Tryd.prog laidAll w) (fun _ _ _ hh h => h.of_heap hh) ownD started (by kernel_rfl) Tryd.func5
    (ChangeSpec.witness_shaped (enc := enc) (C := Tryd.checked) (os := os) (X := fun w _ => laidMetH Tryd.prog laidAll w) false (World.doorLaid Tryd.prog 62 os) #[.agg #[.int .i64 0, .int .i64 0, .slice none 0 0], .int .i64 0] 8 rfl (World.shaped_of_RefB (by kernel_rfl) (by kernel_rfl)) (by kernel_rfl) (by kernel_rfl) (by kernel_rfl) (door_met os _)) ?_
  intro W base args ds gs before hval0 hW hsz0 hL hsh
  have hsz : (DataW.weightsEach Tryd.prog (Tryd.f5.params.toList ++ Rows.tierGroupsSpec.plain.varTypes Tryd.prog) (ds ++ gs)).all (· ≤ reachBytes) = true := hsz0
  clear hsz0
  have hval : ∀ (j : Nat) t v, Tryd.f5.params[j]? = some t → args[j]? = some v → Value.okWide Tryd.prog W .any base t v := hval0
  have hW' := hW
  obtain ⟨p, q, hA0, hV, rfl, hfz, hnd⟩ := hW
  have hA : DataW.TrodAll enc Tryd.prog W 0 (fun _ => true) true Tryd.f5.params.toList args.toList ds p := hA0
  rw [Tryd.params5] at hA hval hsz
  obtain ⟨v0, vs0, d0, ds0, p0, q0, hargs, rfl, rfl, h0, r0⟩ := trodAll_cons hA
  obtain ⟨v1, vs1, d1, ds1, p1, q1, rfl, rfl, rfl, h1, r1⟩ := trodAll_cons r0
  obtain ⟨rfl, rfl, rfl⟩ := trodAll_nil r1
  obtain rfl : args = #[v0, v1] := by cases args; simp_all
  obtain ⟨rfl, rfl⟩ := trodVars_none hV
  obtain ⟨cs0, rfl, hsz0⟩ := okWide_struct Tryd.underlying24 (hval 0 24 v0 rfl rfl)
  have k0 := h0
  have lt0 : ∀ x ∈ p0, x.block < W.heap.size := by obtain ⟨m, hm⟩ := k0; exact DataW.trod_lt m _ _ _ hm
  rw [show Tryd.prog.cellsOf 24 = 3 by kernel_rfl] at hsz0
  obtain ⟨c00, c01, c02, rfl⟩ := cells3 hsz0
  obtain ⟨fuel0, hf0⟩ := h0
  obtain ⟨g0, i0, a0, len0, cap0, rfl, rfl, rfl, wg0, wi0, ⟨ls0, hl0, hp0⟩, -, d00, d01, d02, ed0, hd0⟩ := open_plan (q0 := c00) (q1 := c01) (q2 := c02) hf0
  have ed0 : d0 = .agg [d00, d01, d02] := ed0
  have w0 : IsLayers W a0 len0 cap0 := ⟨ls0, hl0, hp0, plan_sized hsz (j := 0) rfl (by rw [ed0]; rfl) hd0⟩
  obtain ⟨a1, rfl, rfl, rfl, w1⟩ := open_int Tryd.underlying3 (hval 1 3 v1 rfl rfl) h1
  clear hA0 hval0
  refine (walk g0 i0 a0 len0 cap0 a1 W (vars_of hL hsh) wg0 wi0 w0 w1).mono fun e W' ⟨he, bel⟩ => ?_
  subst he
  exact ⟨_, rfl, _, _, _, [], _, [], hW', trodAll_mk1 (shut_bool Tryd.underlying4 _), (trodAll_cons_mk (Below.trod laidOutD (by kernel_rfl) (of_decide_eq_true (by kernel_rfl)) k0 bel lt0) (trodAll_cons_mk (shut_int Tryd.underlying3 w1) trodAll_mk0)), rfl, bel.frame _, fun h => by cases h⟩

theorem over : Rows.tierGroupsRow.holds Tryd.pinned (OpenSpec.ofChange Rows.tierGroupsSpec) :=
  OpenClaim.holds_of_wide 5 Tryd.f5 rfl rfl rfl rfl rfl rfl rfl ⟨rfl, rfl, rfl, rfl, rfl⟩ rfl rfl rfl rfl rfl (by kernel_rfl) Tryd.func5 (by kernel_rfl)
    (of_decide_eq_true (by kernel_rfl)) (by unfold Func.isWrapper; first | (rw [if_pos (by decide +kernel)]; kernel_rfl) | (rw [if_neg (by decide +kernel)]; exact ⟨rfl, rfl⟩))
    (fun os started H enc _ => lifted os started H enc)

theorem card : Rows.TierGroupsCardSaid :=
  Claim7.holds_tied_plain_at .later [] [.data, .data, .data, .sentinel, .sentinel] true (true, "b919752249d168aae7c4bdc5ba172f57bbd34e8d34366b9d2ede4122e7b0a920") true
    over (fun _ h => by cases h) (by kernel_rfl) (fun _ h => by cases h) tierGroups_row_tie rfl ⟨rfl, rfl⟩ (by kernel_rfl) rfl
    (fun f fn hf hfn => by
      obtain rfl : f = 5 := Option.some.inj ((show Tryd.prog.funcNamed "credenza/credenzalaw09.TierGroups" = some 5 by kernel_rfl).symm.trans hf) |>.symm
      obtain rfl : fn = Tryd.f5 := (Option.some.inj (Tryd.func5.symm.trans hfn)).symm
      exact ⟨by kernel_rfl, fun j t ht => by
        rw [Tryd.params5] at ht
        have hm : t ∈ [24, 3] := by simpa using Array.mem_of_getElem? ht
        have hall : ([24, 3].all fun u => !Tryd.prog.wantsStandIn u) = true := by kernel_rfl
        exact (show Tryd.prog.wantsStandIn t = false by simpa using List.all_eq_true.1 hall t hm)⟩)
    (by kernel_rfl)
end Go.Proofs.YtfdmgnfeceoefaaDoor.tierGroups

namespace Go.Proofs.YtfdmgnfeceoefaaDoor
theorem tierGroups_holds : Rows.TierGroupsCardSaid := tierGroups.card
#print axioms tierGroups_holds
end Go.Proofs.YtfdmgnfeceoefaaDoor
