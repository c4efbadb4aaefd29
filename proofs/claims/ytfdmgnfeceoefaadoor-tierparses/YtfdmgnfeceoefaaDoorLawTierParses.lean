/- Any text is a plan's, or refused, as the document says; what is read has just this text: as the law TierParses says it, for every text. -/
import Derived.Test.YtfdmgnfeceoefaaDoorRows
import Derived.Test.YtfdmgnfeceoefaaDoorTrRises
namespace Go.Proofs.YtfdmgnfeceoefaaDoor.tierParses
open Go Go.ChangeShapes Go.WideShapes Go.ChangeAt Go.RowKit Go.Sort Tr
open Go.ChangeMaps (open_string shut_string)
set_option linter.unusedVariables false

set_option maxRecDepth 100000 in
set_option maxHeartbeats 3200000 in
theorem walk (s0 : ByteArray) (w : World) (hv : Vars w) (w0 : s0.size ≤ maxLen) :
    Calls Tryd.prog 4 #[.string s0] w fun e w' => e = .returned (.bool true) ∧ Below w.heap.size w w' := by
  have HV : Hid (Vars w) := hv
  clear hv
  by_cases h1 : 200 < s0.size
  · have g1' : decide (200 < (s0.size : Int)) = true := decide_eq_true (by omega)
    go_enter Tryd.func4, Tryd.ntmps4
    go_wp2_with (go_at_call 8; refine (awake_any _ HV.out).mono ?_; rintro e w1 ⟨rfl, hb⟩; have B1 : Hid (Below w.heap.size w w1) := hb; clear hb)
    go_ret
    exact ⟨rfl, B1.out⟩
  · have g1' : decide (200 < (s0.size : Int)) = false := decide_eq_false (by omega)
    have hz : s0.size ≤ 1000000 := by omega
    obtain ⟨G, W, f, ls, HF, hl, HPI⟩ := pis_out s0
    have ml : ls.length ≤ maxLen := by unfold maxLen; omega
    go_enter Tryd.func4, Tryd.ntmps4
    go_wp2_with fail
    refine (parse_any s0 hz _ HV.out).mono ?_
    rintro e w1 ⟨b1, hh⟩
    obtain ⟨a, c, rfl, hp⟩ := HPI.out _ _ hh
    have B1 : Hid (Below w.heap.size w w1) := b1
    have P1 : Hid (Ps w1 a ls) := hp
    clear hh b1 hp
    go_wp2_with fail
    refine (refParse_any s0 hz _).mono ?_
    rintro e w2 ⟨b2, hh⟩
    obtain ⟨a2, c2, rfl, hp⟩ := HPI.out _ _ hh
    have B2 : Hid (Below w1.heap.size w1 w2) := (box_over _ _).trans (b2.mono (by simp))
    have z2 : w1.heap.size < w2.heap.size := by have := b2.size; simp at this; omega
    have R2 : Hid (w2.rowIs w1.heap.size 24 3 (pcell G W (.slice a ls.length c))) := (pcell_alloc w1 G W (.slice a ls.length c) 24).of_block (b2.block _ (by simp))
    have P2 : Hid (Ps w2 a2 ls) := hp
    clear hh b2 hp
    go_wp2
    obtain ⟨u, hu⟩ : ∃ u, w2.alloc (.cells #[.int .i64 G, .int .i64 W, .slice a2 ls.length c2] 32) = u := ⟨_, rfl⟩
    have V : Hid (Below w2.heap.size w2 u) := by rw [← hu]; exact box_over _ _
    have U : Hid (Below w1.heap.size w1 u) := below_then B2.out V.out
    have NM : u.cell? ⟨w1.heap.size, 0, none⟩ = some (.int .i64 G) ∧ u.cell? ⟨w1.heap.size, 1, none⟩ = some (.int .i64 W) ∧ u.cell? ⟨w1.heap.size, 2, none⟩ = some (.slice a ls.length c) ∧ u.cell? ⟨w2.heap.size, 0, none⟩ = some (.int .i64 G) ∧ u.cell? ⟨w2.heap.size, 1, none⟩ = some (.int .i64 W) ∧ u.cell? ⟨w2.heap.size, 2, none⟩ = some (.slice a2 ls.length c2) := by
      rw [← hu]
      exact ⟨(R2.out.alloc _).cell (show 0 < 3 by decide), (R2.out.alloc _).cell (show 1 < 3 by decide), (R2.out.alloc _).cell (show 2 < 3 by decide), by simp, by simp, by simp⟩
    have zu2 : w2.heap.size < u.heap.size := by rw [← hu]; simp
    have zu1 : w1.heap.size < u.heap.size := by omega
    rw [hu]
    clear hu
    have KS : Hid (∀ w', Below u.heap.size u w' → (w'.cell? ⟨w1.heap.size, 0, none⟩ = some (.int .i64 G) ∧ w'.cell? ⟨w1.heap.size, 1, none⟩ = some (.int .i64 W) ∧ w'.cell? ⟨w1.heap.size, 2, none⟩ = some (.slice a ls.length c) ∧ w'.cell? ⟨w2.heap.size, 0, none⟩ = some (.int .i64 G) ∧ w'.cell? ⟨w2.heap.size, 1, none⟩ = some (.int .i64 W) ∧ w'.cell? ⟨w2.heap.size, 2, none⟩ = some (.slice a2 ls.length c2)) ∧ Hid (Below u.heap.size u w')) := fun w' hb => by
      obtain ⟨n0, n1, n2, n3, n4, n5⟩ := NM
      refine ⟨⟨?_, ?_, ?_, ?_, ?_, ?_⟩, hb⟩
      · rw [hb.cell (p := ⟨w1.heap.size, 0, none⟩) zu1]; exact n0
      · rw [hb.cell (p := ⟨w1.heap.size, 1, none⟩) zu1]; exact n1
      · rw [hb.cell (p := ⟨w1.heap.size, 2, none⟩) zu1]; exact n2
      · rw [hb.cell (p := ⟨w2.heap.size, 0, none⟩) zu2]; exact n3
      · rw [hb.cell (p := ⟨w2.heap.size, 1, none⟩) zu2]; exact n4
      · rw [hb.cell (p := ⟨w2.heap.size, 2, none⟩) zu2]; exact n5
    clear NM
    go_region_held3 (fun w' => (w'.cell? ⟨w1.heap.size, 0, none⟩ = some (.int .i64 G) ∧ w'.cell? ⟨w1.heap.size, 1, none⟩ = some (.int .i64 W) ∧ w'.cell? ⟨w1.heap.size, 2, none⟩ = some (.slice a ls.length c) ∧ w'.cell? ⟨w2.heap.size, 0, none⟩ = some (.int .i64 G) ∧ w'.cell? ⟨w2.heap.size, 1, none⟩ = some (.int .i64 W) ∧ w'.cell? ⟨w2.heap.size, 2, none⟩ = some (.slice a2 ls.length c2)) ∧ Hid (Below u.heap.size u w'))
      (first
        | exact KS.out _ ((Below.refl u.heap.size u).drew)
        | exact KS.out _ y2.out
        | exact KS.out _ y1.out
        | assumption)
      (first
        | (go_at_call 11; (with_reducible refine (ref_any G W a c ls u.drew (P1.out.keep (below_then U.out ((Below.refl u.heap.size u).drew))) (by omega)).mono ?_); rintro e v1 ⟨q1, r1, rfl, hu, hb⟩; have y1 : Hid (Below u.heap.size u v1) := (((Below.refl u.heap.size u).drew)).trans hb; have U1 : Hid (Ps v1 q1 ls) := hu; clear hb hu)
        | (go_at_call 16; (with_reducible refine (refSame_any G W G W q1 a2 r1 c2 ls ls true (by simp [same]) v1 U1.out (P2.out.keep (below_then V.out y1.out)) ml).mono ?_); rintro e v2 ⟨rfl, hb⟩; have y2 : Hid (Below u.heap.size u v2) := below_then y1.out hb; clear hb))
    all_goals
      obtain ⟨⟨k0, k1, k2, -, -, -⟩, -⟩ := KS.out _ y2.out
      by_cases h0 : f = 0
      · subst h0
        obtain ⟨g, i, ns, hs, rfl, rfl, rfl, hr⟩ := HF.out rfl
        have HS : Hid (bl s0 = txt g i ns) := hs.1
        have HR : Hid (right g i (I ns) = 0) := hr
        clear hs hr
        go_wp2_with fail
        refine (text_ok g i a (I ns).length c ns (I_length ns) HR.out v2 (P1.out.keep (below_then U.out y2.out))).mono ?_
        rintro e v3 ⟨t, rfl, ht, -, hbb⟩
        obtain rfl : t = s0 := bl_inj (ht.out.trans HS.out.symm)
        have B3 : Hid (Below w.heap.size w v3) := below_then (below_then B1.out U.out) (below_then y2.out hbb)
        clear hbb k0 k1 k2
        go_wp2_with (go_at_call 8; refine (awake_any v3 (HV.out.keep B3.out)).mono ?_; rintro e v4 ⟨rfl, hbb⟩; have B4 : Hid (Below w.heap.size w v4) := below_then B3.out hbb; clear hbb)
        go_ret
        exact ⟨rfl, B4.out⟩
      · have g0' : (f != 0) = true := by simp [h0]
        clear h0
        have B3 : Hid (Below w.heap.size w v2) := below_then (below_then B1.out U.out) y2.out
        go_wp2_with (go_at_call 8; refine (awake_any v2 (HV.out.keep B3.out)).mono ?_; rintro e v4 ⟨rfl, hbb⟩; have B4 : Hid (Below w.heap.size w v4) := below_then B3.out hbb; clear hbb)
        go_ret
        exact ⟨rfl, B4.out⟩

set_option maxRecDepth 100000 in
set_option maxHeartbeats 3200000 in
theorem lifted (os : Os) (started : os.Started) (H : Type) (enc : TypeId × Value → H) :
    ReturnsInHanded {} Tryd.checked os 4 .any (fun w args => (Rows.tierParsesSpec.pre enc Tryd.prog Tryd.f4 Rows.tierParsesRow.domain false w args ∧ laidMetH Tryd.prog laidAll w) ∧ sizedMet enc Tryd.prog Tryd.f4 (OpenSpec.ofChange Rows.tierParsesSpec) false w args)
      (Rows.tierParsesSpec.post enc Tryd.prog Tryd.f4 false true false false) := by
  refine wrap_listed (C := Tryd.checked) (X := fun w _ => laidMetH Tryd.prog laidAll w) (fun _ _ _ hh h => h.of_heap hh) ownD started (by kernel_rfl) Tryd.func4
    (ChangeSpec.witness_shaped (enc := enc) (C := Tryd.checked) (os := os) (X := fun w _ => laidMetH Tryd.prog laidAll w) false (World.doorLaid Tryd.prog 62 os) #[.string ⟨#[]⟩] 8 rfl (World.shaped_of_RefB (by kernel_rfl) (by kernel_rfl)) (by kernel_rfl) (by kernel_rfl) (by kernel_rfl) (door_met os _)) ?_
  intro W base args ds gs before hval0 hW hsz0 hL hsh
  have hsz : (DataW.weightsEach Tryd.prog (Tryd.f4.params.toList ++ Rows.tierParsesSpec.plain.varTypes Tryd.prog) (ds ++ gs)).all (· ≤ reachBytes) = true := hsz0
  clear hsz0
  have hval : ∀ (j : Nat) t v, Tryd.f4.params[j]? = some t → args[j]? = some v → Value.okWide Tryd.prog W .any base t v := hval0
  have hW' := hW
  obtain ⟨p, q, hA0, hV, rfl, hfz, hnd⟩ := hW
  have hA : DataW.TrodAll enc Tryd.prog W 0 (fun _ => true) true Tryd.f4.params.toList args.toList ds p := hA0
  rw [Tryd.params4] at hA hval hsz
  obtain ⟨v0, vs0, d0, ds0, p0, q0, hargs, rfl, rfl, h0, r0⟩ := trodAll_cons hA
  obtain ⟨rfl, rfl, rfl⟩ := trodAll_nil r0
  obtain rfl : args = #[v0] := by cases args; simp_all
  obtain ⟨rfl, rfl⟩ := trodVars_none hV
  obtain ⟨s0, rfl, rfl, rfl, w0⟩ := open_string Tryd.underlying9 (hval 0 9 v0 rfl rfl) h0
  clear hA0 hval0
  refine (walk s0 W (vars_of hL hsh) w0).mono fun e W' ⟨he, bel⟩ => ?_
  subst he
  exact ⟨_, rfl, _, _, _, [], _, [], hW', trodAll_mk1 (shut_bool Tryd.underlying4 _), (trodAll_cons_mk (shut_string Tryd.underlying9 w0) trodAll_mk0), rfl, bel.frame _, fun h => by cases h⟩

theorem over : Rows.tierParsesRow.holds Tryd.pinned (OpenSpec.ofChange Rows.tierParsesSpec) :=
  OpenClaim.holds_of_wide 4 Tryd.f4 rfl rfl rfl rfl rfl rfl rfl ⟨rfl, rfl, rfl, rfl, rfl⟩ rfl rfl rfl rfl rfl (by kernel_rfl) Tryd.func4 (by kernel_rfl)
    (of_decide_eq_true (by kernel_rfl)) (by unfold Func.isWrapper; first | (rw [if_pos (by decide +kernel)]; kernel_rfl) | (rw [if_neg (by decide +kernel)]; exact ⟨rfl, rfl⟩))
    (fun os started H enc _ => lifted os started H enc)

theorem card : Rows.TierParsesCardSaid :=
  Claim7.holds_tied_plain_at .later [] [.data, .data, .data, .sentinel, .sentinel] true (true, "b919752249d168aae7c4bdc5ba172f57bbd34e8d34366b9d2ede4122e7b0a920") true
    over (fun _ h => by cases h) (by kernel_rfl) (fun _ h => by cases h) tierParses_row_tie rfl ⟨rfl, rfl⟩ (by kernel_rfl) rfl
    (fun f fn hf hfn => by
      obtain rfl : f = 4 := Option.some.inj ((show Tryd.prog.funcNamed "credenza/credenzalaw09.TierParses" = some 4 by kernel_rfl).symm.trans hf) |>.symm
      obtain rfl : fn = Tryd.f4 := (Option.some.inj (Tryd.func4.symm.trans hfn)).symm
      exact ⟨by kernel_rfl, fun j t ht => by
        rw [Tryd.params4] at ht
        have hm : t ∈ [9] := by simpa using Array.mem_of_getElem? ht
        have hall : ([9].all fun u => !Tryd.prog.wantsStandIn u) = true := by kernel_rfl
        exact (show Tryd.prog.wantsStandIn t = false by simpa using List.all_eq_true.1 hall t hm)⟩)
    (by kernel_rfl)
end Go.Proofs.YtfdmgnfeceoefaaDoor.tierParses

namespace Go.Proofs.YtfdmgnfeceoefaaDoor
theorem tierParses_holds : Rows.TierParsesCardSaid := tierParses.card
#print axioms tierParses_holds
end Go.Proofs.YtfdmgnfeceoefaaDoor
