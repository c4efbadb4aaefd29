/- Any numbers are grouped, with any bits, as the document says, or refused; the group is right, and means what the document says: GroupOf answers true for every input. -/
import Derived.Test.YtbiclpaakehgpaaRows
import Derived.Test.YtbiclpaakehgpaaGpNames
import Derived.Deep.RegionHeld3
import Derived.WalkKit
import Derived.ProofKit
import Derived.OpenShut
import Derived.ShutString
import Derived.ChangeOld
import Derived.Below
namespace Go.Proofs.Ytbiclpaakehgpaa.groupOf
open Go.ChangeShapes Go.WideShapes Go.ChangeAt Go.RowKit
open Go.ChangeMaps (open_string shut_string)
set_option linter.unusedVariables false

theorem own : ownKnob Try.prog.godebug = none := by kernel_rfl
theorem laidOut : laidOutB Try.prog = true := by kernel_rfl

/-- WHAT THE WALK IS TOLD OF A SLICE OF INTEGERS THAT CAME IN: it is nil; or it leads to a row of 'cap' cells, the numbers 'zs' (the first 'len' are its elements, the rest its spare room), each fitting its kind. -/
def IsRow (k : IntKind) (w : World) (a : Option Addr) (len cap : Nat) (zs : List Int) : Prop :=
  (a = none ∧ len = 0 ∧ cap = 0 ∧ zs = []) ∨
  ∃ x, a = some x ∧ len ≤ cap ∧ cap ≤ maxLen ∧ zs.length = cap ∧ (∀ i, i < zs.length → w.cell? (x.add i) = some (.int k (zs.getD i 0))) ∧ ∀ n ∈ zs, (Lit.int k n).wf = true

set_option maxRecDepth 100000 in
set_option maxHeartbeats 1600000 in
theorem walk (a0 : Option Addr) (len0 cap0 : Nat) (z0 : List Int) (a1 : Int) (w : World) (w0 : IsRow .i32 w a0 len0 cap0 z0) (w1 : (Lit.int .i64 a1).wf = true) :
    Calls Try.prog 3 #[.slice a0 len0 cap0, .int .i64 a1] w fun e w' => e = .returned (.bool true) ∧ Below w.heap.size w w' := by
  -- depth
  obtain ⟨x, hx, LX, IX, MX, CX, DX, FX⟩ := row_open w0
  subst hx
  have HX : Hid (Lst .i32 w a0 x) := LX
  have HI : Hid (Ls.In32 x) := IX
  have NX : Hid (x.length ≤ maxLen) := MX
  clear w0 LX IX MX CX DX FX
  by_cases hm : 400 < x.length
  · go_enter Try.func3, Try.ntmps3
    go_wp2_with (go_at_call 9; refine (gpAwake_any _).mono ?_; rintro e wa ⟨rfl, hba⟩)
    go_ret
    exact ⟨rfl, hba⟩
  rcases Gp.many_or x.length a1 with hbad | ⟨m, s, rfl, hst, h0, hl, hok⟩
  · obtain ⟨f, ef⟩ : ∃ f, Gp.many x.length a1 = f := ⟨_, rfl⟩
    rw [ef] at hbad
    have g0 : (f != 0) = true := by simp [hbad]
    have EF : Hid (Gp.many x.length a1 = f) := ef
    have HF : Hid (¬ f = 0) := hbad
    clear ef hbad HX HI
    go_enter Try.func3, Try.ntmps3
    go_wp2_with (first
      | (go_at_call 10; refine (of_bad _ _ _ _ f EF.out HF.out NX.out _).mono ?_; rintro e u1 ⟨rfl, hb⟩; have B1 : Hid (Below w.heap.size w u1) := hb; clear hb)
      | (go_at_call 11; refine (refMany_any _ _ f EF.out NX.out _).mono ?_; rintro e w' ⟨rfl, hw⟩; cases hw.symm; clear hw)
      | (go_at_call 9; refine (gpAwake_any _).mono ?_; rintro e wa ⟨rfl, hba⟩; have BA : Hid (Below w.heap.size w wa) := below_then (below_then B1.out (box_over _ _)) hba; clear hba))
    go_ret
    exact ⟨rfl, BA.out⟩
  obtain ⟨z, ez⟩ : ∃ z, Gp.low x = z := ⟨_, rfl⟩
  obtain ⟨sc, es⟩ : ∃ sc, Gp.scale s x = sc := ⟨_, rfl⟩
  have bs := hst.bd
  have sb := Gp.scale_bd (s := (s : Int)) HI.out (by omega)
  rw [es] at sb
  have zb : -2147483648 ≤ z ∧ z ≤ 2147483647 := by rw [← ez]; exact Gp.lowN_in HI.out x.length
  have hrt := Gp.grouped_right (s := (s : Int)) HI.out (by omega)
  rw [ez, es] at hrt
  have EZ : Hid (Gp.low x = z) := ez
  have ES : Hid (Gp.scale s x = sc) := es
  have OK : Hid (Gp.many x.length (m : Int) = 0) := hok
  have HS : Hid (Gp.St m s) := hst
  have RT : Hid (Gp.right s sc (Gp.codes z sc x) = 0) := hrt
  have FT : Hid (Gp.fits 255 (Gp.codes z sc x) = true) := by
    have := (Gp.right_zero hrt).2.2
    exact Gp.fits_yes fun i hi => by have := Gp.fits_all this i hi; omega
  have EL : Hid ((Gp.codes z sc x).length = x.length) := Gp.codes_length _ _ _
  clear ez es hok hst hrt
  go_enter Try.func3, Try.ntmps3
  go_wp2_with fail
  refine (of_ok _ _ m s x _ HX.out HI.out HS.out h0 hl z sc EZ.out ES.out).mono ?_
  rintro e u1 ⟨g1, rfl, hg1, hL1, hb1⟩
  have B1 : Hid (Below w.heap.size w u1) := hb1
  have X1 : Hid (Lst .i32 u1 a0 x) := HX.out.keep hb1
  have L1 : Hid (Lst .i64 u1 (some ⟨g1, 0, none⟩) (Gp.codes z sc x)) := hL1
  clear hg1 hL1 hb1 HX
  go_wp2_with (go_at_call 11; refine (refMany_any _ _ 0 OK.out NX.out _).mono ?_; rintro e w' ⟨rfl, hw⟩; cases hw.symm; clear hw)
  refine (refOf_any _ _ m s x _ (X1.out.keep (box_over _ _)) HI.out HS.out h0 hl z sc EZ.out ES.out).mono ?_
  rintro e u2 ⟨a2, c2, rfl, hL2, hb2⟩
  have G2 : Hid (Grp u2 27 u1.heap.size z sc (.slice (some ⟨g1, 0, none⟩) x.length x.length)) := (grp_new _ _ _ _ _).keep hb2
  have B2 : Hid (Below w.heap.size w u2) := below_then (below_then B1.out (box_over _ _)) hb2
  have L2 : Hid (Lst .i64 u2 (some ⟨g1, 0, none⟩) (Gp.codes z sc x)) := (L1.out.keep (box_over _ _)).keep hb2
  have M2 : Hid (Lst .i64 u2 a2 (Gp.codes z sc x)) := hL2
  clear hL2 hb2 B1 X1 L1
  go_wp2_with fail
  obtain ⟨u, hu⟩ : ∃ u, u2.alloc (.cells #[.int .i32 z, .int .u32 sc, .slice a2 x.length c2] 32) = u := ⟨_, rfl⟩
  have G3 : Hid (Grp u 27 u1.heap.size z sc (.slice (some ⟨g1, 0, none⟩) x.length x.length)) := by rw [← hu]; exact G2.out.keep (box_over _ _)
  have H3 : Hid (Grp u 32 u2.heap.size z sc (.slice a2 x.length c2)) := by rw [← hu]; exact grp_new _ _ _ _ _
  have B3 : Hid (Below w.heap.size w u) := by rw [← hu]; exact below_then B2.out (box_over _ _)
  have L3 : Hid (Lst .i64 u (some ⟨g1, 0, none⟩) (Gp.codes z sc x)) := by rw [← hu]; exact L2.out.keep (box_over _ _)
  have M3 : Hid (Lst .i64 u a2 (Gp.codes z sc x)) := by rw [← hu]; exact M2.out.keep (box_over _ _)
  rw [hu]
  clear hu G2 B2 L2 M2
  have KS : Hid (∀ w', Below u.heap.size u w' → (w'.cell? ⟨u1.heap.size, 0, none⟩ = some (.int .i32 z) ∧ w'.cell? ⟨u1.heap.size, 1, none⟩ = some (.int .u32 sc) ∧ w'.cell? ⟨u1.heap.size, 2, none⟩ = some (.slice (some ⟨g1, 0, none⟩) x.length x.length)) ∧ (w'.cell? ⟨u2.heap.size, 0, none⟩ = some (.int .i32 z) ∧ w'.cell? ⟨u2.heap.size, 1, none⟩ = some (.int .u32 sc) ∧ w'.cell? ⟨u2.heap.size, 2, none⟩ = some (.slice a2 x.length c2)) ∧ Hid (Below u.heap.size u w')) :=
    fun w' hb => ⟨(G3.out.keep hb).cells, (H3.out.keep hb).cells, hb⟩
  go_region_held3 (fun w' => (w'.cell? ⟨u1.heap.size, 0, none⟩ = some (.int .i32 z) ∧ w'.cell? ⟨u1.heap.size, 1, none⟩ = some (.int .u32 sc) ∧ w'.cell? ⟨u1.heap.size, 2, none⟩ = some (.slice (some ⟨g1, 0, none⟩) x.length x.length)) ∧ (w'.cell? ⟨u2.heap.size, 0, none⟩ = some (.int .i32 z) ∧ w'.cell? ⟨u2.heap.size, 1, none⟩ = some (.int .u32 sc) ∧ w'.cell? ⟨u2.heap.size, 2, none⟩ = some (.slice a2 x.length c2)) ∧ Hid (Below u.heap.size u w'))
    (first
      | exact KS.out _ ((Below.refl _ _).drew)
      | exact KS.out _ hbc.out
      | assumption)
    (first
      | (go_at_call 14; refine (ref_any _ _ _ _ _ _).mono ?_; rintro e v1 ⟨rfl, hb⟩; have hbc : Hid (Below u.heap.size u v1) := ((Below.refl _ _).drew).trans hb; clear hb)
      | (go_at_call 13; refine (refSame_anym z sc z sc _ _ _ _ _ _ (Gp.codes z sc x) (Gp.codes z sc x) _ EL.out.symm EL.out.symm (L3.out.keep hbc.out) (M3.out.keep hbc.out) (by rw [EL.out]; exact NX.out) true (Gp.eqG_self _ _ _)).mono ?_; rintro e v2 ⟨rfl, hb⟩; have hbc : Hid (Below u.heap.size u v2) := below_then hbc.out hb; clear hb)
      | (go_at_call 15; refine (right_anym _ _ _ _ _ m s (Gp.codes z sc x) 0 _ EL.out.symm (L3.out.keep hbc.out) HS.out h0 hl sb.1 (by omega) RT.out).mono ?_; rintro e v3 ⟨rfl, hb⟩; have hbc : Hid (Below u.heap.size u v3) := below_then hbc.out hb; clear hb)
      | (go_at_call 17; refine (back_anym _ _ _ _ _ (Gp.codes z sc x) _ EL.out.symm (L3.out.keep hbc.out) hl FT.out zb.1 zb.2 sb.1 (by omega)).mono ?_; rintro e v4 ⟨g4, rfl, hg4, hL4, hb⟩; have hbc : Hid (Below u.heap.size u v4) := below_then hbc.out hb; have L4 : Hid (Lst .i32 v4 (some ⟨g4, 0, none⟩) (Gp.means z sc (Gp.codes z sc x))) := hL4; clear hb hL4 hg4)
      | (go_at_call 18; refine (refBack_anym _ _ _ _ _ (Gp.codes z sc x) _ EL.out.symm (M3.out.keep hbc.out) hl FT.out zb.1 zb.2 sb.1 (by omega)).mono ?_; rintro e v5 ⟨a5, c5, rfl, hL5, hb⟩; have hbc : Hid (Below u.heap.size u v5) := below_then hbc.out hb; have L5 : Hid (Lst .i32 v5 a5 (Gp.means z sc (Gp.codes z sc x)) ∧ Lst .i32 v5 (some ⟨g4, 0, none⟩) (Gp.means z sc (Gp.codes z sc x))) := ⟨hL5, L4.out.keep hb⟩; clear hb hL5)
      | (go_at_call 16; refine (same_anym _ _ _ _ _ _ (Gp.means z sc (Gp.codes z sc x)) (Gp.means z sc (Gp.codes z sc x)) _ (by rw [Gp.means_length, EL.out]) (by rw [Gp.means_length, EL.out]) L5.out.2 L5.out.1 (by rw [Gp.means_length, EL.out]; omega) rfl).mono ?_; rintro e v6 ⟨rfl, hb⟩; have hbc : Hid (Below u.heap.size u v6) := below_then hbc.out hb; clear hb)
      | (go_at_call 9; refine (gpAwake_any _).mono ?_; rintro e v7 ⟨rfl, hb⟩; have hbc : Hid (Below u.heap.size u v7) := below_then hbc.out hb; clear hb))
  go_wp2
  go_ret
  exact ⟨rfl, below_then B3.out hbc.out⟩

set_option maxRecDepth 100000 in
theorem lifted (os : Os) (started : os.Started) (H : Type) (enc : TypeId × Value → H) :
    ReturnsInHanded {} Try.checked os 3 .any (Rows.groupOfSpec.pre6 enc Try.prog Try.f3 Rows.groupOfRow.domain false) (Rows.groupOfSpec.post enc Try.prog Try.f3 false true false false) := by
  refine returnsInHanded_of_change (C := Try.checked) own started (by kernel_rfl) Try.func3
    (ChangeSpec.witness6 (enc := enc) (C := Try.checked) false ⟨#[], #[.slice none 0 0, .int .i64 0], []⟩ 8 (by kernel_rfl) (by kernel_rfl) (by kernel_rfl) (by kernel_rfl)) ?_
  intro W base args ds gs before hval0 hW hcnd _
  have hval : ∀ (j : Nat) t v, Try.f3.params[j]? = some t → args[j]? = some v → Value.okWide Try.prog W .any base t v := hval0
  have hW' := hW
  obtain ⟨p, q, hA0, hV, rfl, hfz, hnd⟩ := hW
  have hA : DataW.TrodAll enc Try.prog W 0 (fun _ => true) true Try.f3.params.toList args.toList ds p := hA0
  rw [Try.params3] at hA hval
  obtain ⟨v0, vs0, d0, ds0, p0, q0, hargs, rfl, rfl, h0, r0⟩ := trodAll_cons hA
  obtain ⟨v1, vs1, d1, ds1, p1, q1, rfl, rfl, rfl, h1, r1⟩ := trodAll_cons r0
  obtain ⟨rfl, rfl, rfl⟩ := trodAll_nil r1
  obtain rfl : args = #[v0, v1] := by cases args; simp_all
  obtain ⟨rfl, rfl⟩ := trodVars_none hV
  obtain ⟨a0, len0, cap0, rfl⟩ := okWide_slice Try.underlying22 (hval 0 22 v0 rfl rfl)
  have k0 := h0
  have lt0 : ∀ x ∈ p0, x.block < W.heap.size := by obtain ⟨m, hm⟩ := k0; exact DataW.trod_lt m _ _ _ hm
  obtain ⟨z0, w0⟩ : ∃ zs, IsRow .i32 W a0 len0 cap0 zs := by
    obtain ⟨fuel, hf⟩ := h0
    rcases open_ints Try.underlying22 Try.underlying21 (by kernel_rfl) hf with ⟨hcs, _⟩ | ⟨x, l, c, zs, hcs, _, hl, hm, hz, _, hcell, hwz⟩
    · simp [Value.cells] at hcs
      obtain ⟨rfl, rfl, rfl⟩ := hcs
      exact ⟨[], .inl ⟨rfl, rfl, rfl, rfl⟩⟩
    · simp [Value.cells] at hcs
      obtain ⟨rfl, rfl, rfl⟩ := hcs
      exact ⟨zs, .inr ⟨_, rfl, hl, hm, by simpa using hz, hcell, hwz⟩⟩
  obtain ⟨a1, rfl, rfl, rfl, w1⟩ := open_int Try.underlying3 (hval 1 3 v1 rfl rfl) h1
  clear hA0 hval0
  refine (walk a0 len0 cap0 z0 a1 W w0 w1).mono fun e W' ⟨he, bel⟩ => ?_
  subst he
  exact ⟨_, rfl, _, _, _, [], _, [], hW', trodAll_mk1 (shut_bool Try.underlying4 _), (trodAll_cons_mk (Below.trod laidOut (by kernel_rfl) (of_decide_eq_true (by kernel_rfl)) k0 bel lt0) (trodAll_cons_mk (shut_int Try.underlying3 w1) trodAll_mk0)), rfl, bel.frame _, fun h => by cases h⟩

theorem over : Rows.groupOfRow.holds Try.pinned (OpenSpec.ofChange Rows.groupOfSpec) :=
  OpenClaim.holds_of_wide 3 Try.f3 rfl rfl rfl rfl rfl rfl rfl ⟨rfl, rfl, rfl, rfl, rfl⟩ rfl rfl rfl rfl rfl (by kernel_rfl) Try.func3 (by kernel_rfl)
    (of_decide_eq_true (by kernel_rfl)) (by unfold Func.isWrapper; first | (rw [if_pos (by decide +kernel)]; kernel_rfl) | (rw [if_neg (by decide +kernel)]; exact ⟨rfl, rfl⟩))
    (fun os started H enc _ => lifted os started H enc)

theorem proved : Rows.GroupOfSaid := over
end Go.Proofs.Ytbiclpaakehgpaa.groupOf

namespace Go.Proofs.Ytbiclpaakehgpaa
theorem groupOf_holds : Rows.GroupOfSaid := groupOf.proved
#print axioms groupOf_holds
end Go.Proofs.Ytbiclpaakehgpaa
