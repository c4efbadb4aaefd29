/- Any plan has the text that the document says, and is read from it again, or it is refused: as the law TierTexts says it, for every plan. -/
import Derived.Test.YtfdmgnfeceoefaaDoorRows
import Derived.Test.YtfdmgnfeceoefaaDoorTrRises
namespace Go.Proofs.YtfdmgnfeceoefaaDoor.tierTexts
open Go Go.ChangeShapes Go.WideShapes Go.ChangeAt Go.RowKit Go.Sort Tr
open Go.ChangeMaps (open_string shut_string)
set_option linter.unusedVariables false

set_option maxRecDepth 100000 in
set_option maxHeartbeats 6400000 in
theorem walk (g0 i0 : Int) (a0 : Option Addr) (len0 cap0 : Nat) (w : World) (hv : Vars w) (wg0 : (Lit.int .i64 g0).wf = true) (wi0 : (Lit.int .i64 i0).wf = true) (w0 : IsLayers w a0 len0 cap0) :
    Calls Tryd.prog 3 #[.agg #[.int .i64 g0, .int .i64 i0, .slice a0 len0 cap0]] w fun e w' => e = .returned (.bool true) ∧ Below w.heap.size w w' := by
  obtain ⟨ls, rfl, hp, hb⟩ := w0
  have HV : Hid (Vars w) := hv
  have HP : Hid (Ps w a0 ls) := hp
  clear hv hp wg0 wi0
  have ml : ls.length ≤ maxLen := by unfold maxLen; omega
  by_cases h1 : 100 < ls.length
  · have g1' : decide (100 < (ls.length : Int)) = true := decide_eq_true (by omega)
    go_enter Tryd.func3, Tryd.ntmps3
    go_wp2_with (go_at_call 8; refine (awake_any _ (HV.out.keep (box_over _ _))).mono ?_; rintro e w1 ⟨rfl, hbb⟩; have B1 : Hid (Below w.heap.size w w1) := below_then (box_over _ _) hbb; clear hbb)
    go_ret
    exact ⟨rfl, B1.out⟩
  · have g1' : decide (100 < (ls.length : Int)) = false := decide_eq_false (by omega)
    clear h1
    obtain ⟨r, hr⟩ : ∃ r, right g0 i0 ls = r := ⟨_, rfl⟩
    by_cases h0 : r = 0
    · subst h0
      obtain ⟨gg1, gg2, ii1, ii2, l1, l2, hall⟩ := right_zero hr
      obtain ⟨ns, rfl⟩ := nats_of hall
      obtain ⟨g, rfl⟩ : ∃ g : Nat, g0 = g := ⟨g0.toNat, by omega⟩
      obtain ⟨i, rfl⟩ : ∃ i : Nat, i0 = i := ⟨i0.toNat, by omega⟩
      have HR : Hid (right g i (I ns) = 0) := hr
      clear hr hall gg1 gg2 ii1 ii2 l1 l2
      go_enter Tryd.func3, Tryd.ntmps3
      go_wp2_with (first
        | (go_at_call 9; refine (text_ok g i a0 (I ns).length cap0 ns (I_length ns) HR.out _ (HP.out.keep (box_over _ _))).mono ?_; rintro e v1 ⟨t, rfl, HT, hts, hbb⟩; have B1 : Hid (Below w.heap.size w v1) := below_then (box_over _ _) hbb; have m0 : v1.cell? ⟨w.heap.size, 0, none⟩ = some (.int .i64 g) := (by rw [hbb.cell (p := ⟨w.heap.size, 0, none⟩) (by simp)]; simp); have m1 : v1.cell? ⟨w.heap.size, 1, none⟩ = some (.int .i64 i) := (by rw [hbb.cell (p := ⟨w.heap.size, 1, none⟩) (by simp)]; simp); have m2 : v1.cell? ⟨w.heap.size, 2, none⟩ = some (.slice a0 (I ns).length cap0) := (by rw [hbb.cell (p := ⟨w.heap.size, 2, none⟩) (by simp)]; simp); have z1 : w.heap.size < v1.heap.size := (by have := hbb.size; simp at this; omega); clear hbb)
        | (go_at_call 11; refine (ref_any g i a0 cap0 (I ns) v1 (HP.out.keep B1.out) hb).mono ?_; rintro e v2 ⟨q2, c2, rfl, hq, hbb⟩; have B2 : Hid (Below w.heap.size w v2) := below_then B1.out hbb; have Q2 : Hid (Ps v2 q2 (I ns)) := hq; clear hq; have n0 : v2.cell? ⟨w.heap.size, 0, none⟩ = some (.int .i64 g) := (by rw [hbb.cell (p := ⟨w.heap.size, 0, none⟩) z1]; exact m0); have n1 : v2.cell? ⟨w.heap.size, 1, none⟩ = some (.int .i64 i) := (by rw [hbb.cell (p := ⟨w.heap.size, 1, none⟩) z1]; exact m1); have n2 : v2.cell? ⟨w.heap.size, 2, none⟩ = some (.slice a0 (I ns).length cap0) := (by rw [hbb.cell (p := ⟨w.heap.size, 2, none⟩) z1]; exact m2); have z2 : w.heap.size < v2.heap.size := (by have := hbb.size; omega); clear hbb m0 m1 m2)
        | (go_at_call 10; refine (refRight_any g i q2 c2 (I ns) 0 HR.out v2 Q2.out ml).mono ?_; rintro e v3 ⟨rfl, hbb⟩; have B3 : Hid (Below w.heap.size w v3) := below_then B2.out hbb; have m0 : v3.cell? ⟨w.heap.size, 0, none⟩ = some (.int .i64 g) := (by rw [hbb.cell (p := ⟨w.heap.size, 0, none⟩) z2]; exact n0); have m1 : v3.cell? ⟨w.heap.size, 1, none⟩ = some (.int .i64 i) := (by rw [hbb.cell (p := ⟨w.heap.size, 1, none⟩) z2]; exact n1); have m2 : v3.cell? ⟨w.heap.size, 2, none⟩ = some (.slice a0 (I ns).length cap0) := (by rw [hbb.cell (p := ⟨w.heap.size, 2, none⟩) z2]; exact n2); have z3 : w.heap.size < v3.heap.size := (by have := hbb.size; omega); clear hbb n0 n1 n2)
        | (go_at_call 12; refine (right_any g i a0 cap0 (I ns) 0 HR.out v3 (HP.out.keep B3.out) ml).mono ?_; rintro e v4 ⟨rfl, hbb⟩; have B4 : Hid (Below w.heap.size w v4) := below_then B3.out hbb; have n0 : v4.cell? ⟨w.heap.size, 0, none⟩ = some (.int .i64 g) := (by rw [hbb.cell (p := ⟨w.heap.size, 0, none⟩) z3]; exact m0); have n1 : v4.cell? ⟨w.heap.size, 1, none⟩ = some (.int .i64 i) := (by rw [hbb.cell (p := ⟨w.heap.size, 1, none⟩) z3]; exact m1); have n2 : v4.cell? ⟨w.heap.size, 2, none⟩ = some (.slice a0 (I ns).length cap0) := (by rw [hbb.cell (p := ⟨w.heap.size, 2, none⟩) z3]; exact m2); have z4 : w.heap.size < v4.heap.size := (by have := hbb.size; omega); clear hbb m0 m1 m2)
        | (go_at_call 13; refine (parse_any t (by omega) v4 (HV.out.keep B4.out)).mono ?_; rintro e v5 ⟨hbb, h5⟩; obtain ⟨a5, c5, he, hp5, -, -⟩ := pis_ok h5 (says_of HR.out HT.out) HR.out; rw [← I_length ns] at he; subst he; have B5 : Hid (Below w.heap.size w v5) := below_then B4.out hbb; have P5 : Hid (Ps v5 a5 (I ns)) := hp5; clear h5 hp5; have m0 : v5.cell? ⟨w.heap.size, 0, none⟩ = some (.int .i64 g) := (by rw [hbb.cell (p := ⟨w.heap.size, 0, none⟩) z4]; exact n0); have m1 : v5.cell? ⟨w.heap.size, 1, none⟩ = some (.int .i64 i) := (by rw [hbb.cell (p := ⟨w.heap.size, 1, none⟩) z4]; exact n1); have m2 : v5.cell? ⟨w.heap.size, 2, none⟩ = some (.slice a0 (I ns).length cap0) := (by rw [hbb.cell (p := ⟨w.heap.size, 2, none⟩) z4]; exact n2); have z5 : w.heap.size < v5.heap.size := (by have := hbb.size; omega); clear hbb n0 n1 n2))
      obtain ⟨u, hu⟩ : ∃ u, v5.alloc (.cells #[.int .i64 g, .int .i64 i, .slice a5 (I ns).length c5] 24) = u := ⟨_, rfl⟩
      have V : Hid (Below v5.heap.size v5 u) := by rw [← hu]; exact box_over _ _
      have U : Hid (Below w.heap.size w u) := below_then B5.out V.out
      have NM : u.cell? ⟨w.heap.size, 0, none⟩ = some (.int .i64 g) ∧ u.cell? ⟨w.heap.size, 1, none⟩ = some (.int .i64 i) ∧ u.cell? ⟨w.heap.size, 2, none⟩ = some (.slice a0 (I ns).length cap0) ∧ u.cell? ⟨v5.heap.size, 0, none⟩ = some (.int .i64 g) ∧ u.cell? ⟨v5.heap.size, 1, none⟩ = some (.int .i64 i) ∧ u.cell? ⟨v5.heap.size, 2, none⟩ = some (.slice a5 (I ns).length c5) := by
        refine ⟨?_, ?_, ?_, by rw [← hu]; simp, by rw [← hu]; simp, by rw [← hu]; simp⟩
        · rw [V.out.cell (p := ⟨w.heap.size, 0, none⟩) z5]; exact m0
        · rw [V.out.cell (p := ⟨w.heap.size, 1, none⟩) z5]; exact m1
        · rw [V.out.cell (p := ⟨w.heap.size, 2, none⟩) z5]; exact m2
      have zu2 : v5.heap.size < u.heap.size := by rw [← hu]; simp
      have zu1 : w.heap.size < u.heap.size := by omega
      rw [hu]
      clear hu m0 m1 m2
      have KS : Hid (∀ w', Below u.heap.size u w' → (w'.cell? ⟨w.heap.size, 0, none⟩ = some (.int .i64 g) ∧ w'.cell? ⟨w.heap.size, 1, none⟩ = some (.int .i64 i) ∧ w'.cell? ⟨w.heap.size, 2, none⟩ = some (.slice a0 (I ns).length cap0) ∧ w'.cell? ⟨v5.heap.size, 0, none⟩ = some (.int .i64 g) ∧ w'.cell? ⟨v5.heap.size, 1, none⟩ = some (.int .i64 i) ∧ w'.cell? ⟨v5.heap.size, 2, none⟩ = some (.slice a5 (I ns).length c5)) ∧ Hid (Below u.heap.size u w')) := fun w' hb => by
        obtain ⟨n0, n1, n2, n3, n4, n5⟩ := NM
        refine ⟨⟨?_, ?_, ?_, ?_, ?_, ?_⟩, hb⟩
        · rw [hb.cell (p := ⟨w.heap.size, 0, none⟩) zu1]; exact n0
        · rw [hb.cell (p := ⟨w.heap.size, 1, none⟩) zu1]; exact n1
        · rw [hb.cell (p := ⟨w.heap.size, 2, none⟩) zu1]; exact n2
        · rw [hb.cell (p := ⟨v5.heap.size, 0, none⟩) zu2]; exact n3
        · rw [hb.cell (p := ⟨v5.heap.size, 1, none⟩) zu2]; exact n4
        · rw [hb.cell (p := ⟨v5.heap.size, 2, none⟩) zu2]; exact n5
      clear NM
      go_region_held3 (fun w' => (w'.cell? ⟨w.heap.size, 0, none⟩ = some (.int .i64 g) ∧ w'.cell? ⟨w.heap.size, 1, none⟩ = some (.int .i64 i) ∧ w'.cell? ⟨w.heap.size, 2, none⟩ = some (.slice a0 (I ns).length cap0) ∧ w'.cell? ⟨v5.heap.size, 0, none⟩ = some (.int .i64 g) ∧ w'.cell? ⟨v5.heap.size, 1, none⟩ = some (.int .i64 i) ∧ w'.cell? ⟨v5.heap.size, 2, none⟩ = some (.slice a5 (I ns).length c5)) ∧ Hid (Below u.heap.size u w'))
        (first
          | exact KS.out _ ((Below.refl u.heap.size u).drew)
          | exact KS.out _ y7.out
          | exact KS.out _ y6.out
          | exact KS.out _ y5.out
          | exact KS.out _ y4.out
          | exact KS.out _ y3.out
          | exact KS.out _ y2.out
          | exact KS.out _ y1.out
          | assumption)
        (first
          | (go_at_call 11; (with_reducible refine (ref_any g i a0 cap0 (I ns) u.drew (HP.out.keep (below_then U.out ((Below.refl u.heap.size u).drew))) hb).mono ?_); rintro e x1 ⟨q1, r1, rfl, hu, hbb⟩; have y1 : Hid (Below u.heap.size u x1) := (((Below.refl u.heap.size u).drew)).trans hbb; have U1 : Hid (Ps x1 q1 (I ns)) := hu; clear hbb hu)
          | (go_at_call 14; (with_reducible refine (refText_any g i q1 (I ns).length r1 ns (I_length ns) HR.out x1 U1.out).mono ?_); rintro e x2 ⟨t2, rfl, ht2, hbb⟩; have y2 : Hid (Below u.heap.size u x2) := below_then y1.out hbb; obtain rfl : t2 = t := bl_inj (ht2.out.trans HT.out.symm); clear hbb ht2)
          | (go_at_call 15; (with_reducible refine (equal_any g i g i a0 a5 cap0 c5 (I ns) (I ns) true (by simp [same]) x2 (HP.out.keep (below_then U.out y2.out)) (P5.out.keep (below_then V.out y2.out)) ml).mono ?_); rintro e x3 ⟨rfl, hbb⟩; have y3 : Hid (Below u.heap.size u x3) := below_then y2.out hbb; clear hbb)
          | (go_at_call 11; (with_reducible refine (ref_any g i a5 c5 (I ns) x3 (P5.out.keep (below_then V.out y3.out)) hb).mono ?_); rintro e x4 ⟨q4, r4, rfl, hu, hbb⟩; have y4 : Hid (Below u.heap.size u x4) := below_then y3.out hbb; have U4 : Hid (Ps x4 q4 (I ns)) := hu; clear hbb hu)
          | (go_at_call 11; (with_reducible refine (ref_any g i a0 cap0 (I ns) x4 (HP.out.keep (below_then U.out y4.out)) hb).mono ?_); rintro e x5 ⟨q5, r5, rfl, hu, hbb⟩; have y5 : Hid (Below u.heap.size u x5) := below_then y4.out hbb; have U5 : Hid (Ps x5 q5 (I ns)) := hu; have V4 : Hid (Ps x5 q4 (I ns)) := U4.out.keep hbb; clear hbb hu)
          | (go_at_call 16; (with_reducible refine (refSame_any g i g i q4 q5 r4 r5 (I ns) (I ns) true (by simp [same]) x5 V4.out U5.out ml).mono ?_); rintro e x6 ⟨rfl, hbb⟩; have y6 : Hid (Below u.heap.size u x6) := below_then y5.out hbb; clear hbb)
          | (go_at_call 8; (with_reducible refine (awake_any x6 (HV.out.keep (below_then U.out y6.out))).mono ?_); rintro e x7 ⟨rfl, hbb⟩; have y7 : Hid (Below u.heap.size u x7) := below_then y6.out hbb; clear hbb))
      all_goals
        go_wp2
        go_ret
        exact ⟨rfl, below_then U.out y7.out⟩
    · have g9 : (r != 0) = true := by simp [h0]
      have H0 : Hid (¬ r = 0) := h0
      have HR : Hid (right g0 i0 ls = r) := hr
      clear h0 hr
      go_enter Tryd.func3, Tryd.ntmps3
      go_wp2_with (first
        | (go_at_call 9; refine (text_bad g0 i0 a0 cap0 ls r HR.out H0.out _ (HP.out.keep (box_over _ _)) ml).mono ?_; rintro e v1 ⟨rfl, hbb⟩; have B1 : Hid (Below w.heap.size w v1) := below_then (box_over _ _) hbb; have m0 : v1.cell? ⟨w.heap.size, 0, none⟩ = some (.int .i64 g0) := (by rw [hbb.cell (p := ⟨w.heap.size, 0, none⟩) (by simp)]; simp); have m1 : v1.cell? ⟨w.heap.size, 1, none⟩ = some (.int .i64 i0) := (by rw [hbb.cell (p := ⟨w.heap.size, 1, none⟩) (by simp)]; simp); have m2 : v1.cell? ⟨w.heap.size, 2, none⟩ = some (.slice a0 ls.length cap0) := (by rw [hbb.cell (p := ⟨w.heap.size, 2, none⟩) (by simp)]; simp); have z1 : w.heap.size < v1.heap.size := (by have := hbb.size; simp at this; omega); clear hbb)
        | (go_at_call 11; refine (ref_any g0 i0 a0 cap0 ls v1 (HP.out.keep B1.out) hb).mono ?_; rintro e v2 ⟨q2, c2, rfl, hq, hbb⟩; have B2 : Hid (Below w.heap.size w v2) := below_then B1.out hbb; have Q2 : Hid (Ps v2 q2 ls) := hq; clear hq; have n0 : v2.cell? ⟨w.heap.size, 0, none⟩ = some (.int .i64 g0) := (by rw [hbb.cell (p := ⟨w.heap.size, 0, none⟩) z1]; exact m0); have n1 : v2.cell? ⟨w.heap.size, 1, none⟩ = some (.int .i64 i0) := (by rw [hbb.cell (p := ⟨w.heap.size, 1, none⟩) z1]; exact m1); have n2 : v2.cell? ⟨w.heap.size, 2, none⟩ = some (.slice a0 ls.length cap0) := (by rw [hbb.cell (p := ⟨w.heap.size, 2, none⟩) z1]; exact m2); have z2 : w.heap.size < v2.heap.size := (by have := hbb.size; omega); clear hbb m0 m1 m2)
        | (go_at_call 10; refine (refRight_any g0 i0 q2 c2 ls r HR.out v2 Q2.out ml).mono ?_; rintro e v3 ⟨rfl, hbb⟩; have B3 : Hid (Below w.heap.size w v3) := below_then B2.out hbb; have m0 : v3.cell? ⟨w.heap.size, 0, none⟩ = some (.int .i64 g0) := (by rw [hbb.cell (p := ⟨w.heap.size, 0, none⟩) z2]; exact n0); have m1 : v3.cell? ⟨w.heap.size, 1, none⟩ = some (.int .i64 i0) := (by rw [hbb.cell (p := ⟨w.heap.size, 1, none⟩) z2]; exact n1); have m2 : v3.cell? ⟨w.heap.size, 2, none⟩ = some (.slice a0 ls.length cap0) := (by rw [hbb.cell (p := ⟨w.heap.size, 2, none⟩) z2]; exact n2); have z3 : w.heap.size < v3.heap.size := (by have := hbb.size; omega); clear hbb n0 n1 n2)
        | (go_at_call 12; refine (right_any g0 i0 a0 cap0 ls r HR.out v3 (HP.out.keep B3.out) ml).mono ?_; rintro e v4 ⟨rfl, hbb⟩; have B4 : Hid (Below w.heap.size w v4) := below_then B3.out hbb; clear hbb m0 m1 m2)
        | (go_at_call 8; refine (awake_any v4 (HV.out.keep B4.out)).mono ?_; rintro e v5 ⟨rfl, hbb⟩; have B5 : Hid (Below w.heap.size w v5) := below_then B4.out hbb; clear hbb))
      go_ret
      exact ⟨rfl, B5.out⟩

set_option maxRecDepth 100000 in
set_option maxHeartbeats 3200000 in
theorem lifted (os : Os) (started : os.Started) (H : Type) (enc : TypeId × Value → H) :
    ReturnsInHanded {} Tryd.checked os 3 .any (fun w args => (Rows.tierTextsSpec.pre enc Tryd.prog Tryd.f3 Rows.tierTextsRow.domain false w args ∧ laidMetH Tryd.prog laidAll w) ∧ sizedMet enc Tryd.prog Tryd.f3 (OpenSpec.ofChange Rows.tierTextsSpec) false w args)
      (Rows.tierTextsSpec.post enc Tryd.prog Tryd.f3 false true false false) := by
  refine wrap_listed (C := Tryd.checked) (X := fun w _ => laidMetH Tryd.prog laidAll w) (fun _ _ _ hh h => h.of_heap hh) ownD started (by kernel_rfl) Tryd.func3
    (ChangeSpec.witness_shaped (enc := enc) (C := Tryd.checked) (os := os) (X := fun w _ => laidMetH Tryd.prog laidAll w) false (World.doorLaid Tryd.prog 62 os) #[.agg #[.int .i64 0, .int .i64 0, .slice none 0 0]] 8 rfl (World.shaped_of_RefB (by kernel_rfl) (by kernel_rfl)) (by kernel_rfl) (by kernel_rfl) (by kernel_rfl) (door_met os _)) ?_
  intro W base args ds gs before hval0 hW hsz0 hL hsh
  have hsz : (DataW.weightsEach Tryd.prog (Tryd.f3.params.toList ++ Rows.tierTextsSpec.plain.varTypes Tryd.prog) (ds ++ gs)).all (· ≤ reachBytes) = true := hsz0
  clear hsz0
  have hval : ∀ (j : Nat) t v, Tryd.f3.params[j]? = some t → args[j]? = some v → Value.okWide Tryd.prog W .any base t v := hval0
  have hW' := hW
  obtain ⟨p, q, hA0, hV, rfl, hfz, hnd⟩ := hW
  have hA : DataW.TrodAll enc Tryd.prog W 0 (fun _ => true) true Tryd.f3.params.toList args.toList ds p := hA0
  rw [Tryd.params3] at hA hval hsz
  obtain ⟨v0, vs0, d0, ds0, p0, q0, hargs, rfl, rfl, h0, r0⟩ := trodAll_cons hA
  obtain ⟨rfl, rfl, rfl⟩ := trodAll_nil r0
  obtain rfl : args = #[v0] := by cases args; simp_all
  obtain ⟨rfl, rfl⟩ := trodVars_none hV
  obtain ⟨cs0, rfl, hsz0⟩ := okWide_struct Tryd.underlying24 (hval 0 24 v0 rfl rfl)
  have k0 := h0
  have lt0 : ∀ x ∈ p0, x.block < W.heap.size := by obtain ⟨m, hm⟩ := k0; exact DataW.trod_lt m _ _ _ hm
  rw [show Tryd.prog.cellsOf 24 = 3 by kernel_rfl] at hsz0
  obtain ⟨c00, c01, c02, rfl⟩ := cells3 hsz0
  obtain ⟨fuel0, hf0⟩ := h0
  obtain ⟨g0, i0, a0, len0, cap0, rfl, rfl, rfl, wg0, wi0, ⟨ls0, hl0, hp0⟩, -, d00, d01, d02, ed0, hd0⟩ := open_plan (q0 := c00) (q1 := c01) (q2 := c02) hf0
  have ed0 : d0 = .agg [d00, d01, d02] := ed0
  have w0 : IsLayers W a0 len0 cap0 := ⟨ls0, hl0, hp0, plan_sized hsz (j := 0) rfl (by rw [ed0]; rfl) hd0⟩
  clear hA0 hval0
  refine (walk g0 i0 a0 len0 cap0 W (vars_of hL hsh) wg0 wi0 w0).mono fun e W' ⟨he, bel⟩ => ?_
  subst he
  exact ⟨_, rfl, _, _, _, [], _, [], hW', trodAll_mk1 (shut_bool Tryd.underlying4 _), (trodAll_cons_mk (Below.trod laidOutD (by kernel_rfl) (of_decide_eq_true (by kernel_rfl)) k0 bel lt0) trodAll_mk0), rfl, bel.frame _, fun h => by cases h⟩

theorem over : Rows.tierTextsRow.holds Tryd.pinned (OpenSpec.ofChange Rows.tierTextsSpec) :=
  OpenClaim.holds_of_wide 3 Tryd.f3 rfl rfl rfl rfl rfl rfl rfl ⟨rfl, rfl, rfl, rfl, rfl⟩ rfl rfl rfl rfl rfl (by kernel_rfl) Tryd.func3 (by kernel_rfl)
    (of_decide_eq_true (by kernel_rfl)) (by unfold Func.isWrapper; first | (rw [if_pos (by decide +kernel)]; kernel_rfl) | (rw [if_neg (by decide +kernel)]; exact ⟨rfl, rfl⟩))
    (fun os started H enc _ => lifted os started H enc)

theorem card : Rows.TierTextsCardSaid :=
  Claim7.holds_tied_plain_at .later [] [.data, .data, .data, .sentinel, .sentinel] true (true, "b919752249d168aae7c4bdc5ba172f57bbd34e8d34366b9d2ede4122e7b0a920") true
    over (fun _ h => by cases h) (by kernel_rfl) (fun _ h => by cases h) tierTexts_row_tie rfl ⟨rfl, rfl⟩ (by kernel_rfl) rfl
    (fun f fn hf hfn => by
      obtain rfl : f = 3 := Option.some.inj ((show Tryd.prog.funcNamed "credenza/credenzalaw09.TierTexts" = some 3 by kernel_rfl).symm.trans hf) |>.symm
      obtain rfl : fn = Tryd.f3 := (Option.some.inj (Tryd.func3.symm.trans hfn)).symm
      exact ⟨by kernel_rfl, fun j t ht => by
        rw [Tryd.params3] at ht
        have hm : t ∈ [24] := by simpa using Array.mem_of_getElem? ht
        have hall : ([24].all fun u => !Tryd.prog.wantsStandIn u) = true := by kernel_rfl
        exact (show Tryd.prog.wantsStandIn t = false by simpa using List.all_eq_true.1 hall t hm)⟩)
    (by kernel_rfl)
end Go.Proofs.YtfdmgnfeceoefaaDoor.tierTexts

namespace Go.Proofs.YtfdmgnfeceoefaaDoor
theorem tierTexts_holds : Rows.TierTextsCardSaid := tierTexts.card
#print axioms tierTexts_holds
end Go.Proofs.YtfdmgnfeceoefaaDoor
