/- Any group is right for any bits, or not, as the document says; of a right one each code's meaning is told, too: GroupRight answers true for every input. -/
import Derived.Test.YtbiclpaakehgpaaRows
import Derived.Test.YtbiclpaakehgpaaGpNames
import Derived.Test.YtbiclpaakehgpaaStFrame
import Derived.Deep.RegionHeld3
import Derived.WalkKit
import Derived.ProofKit
import Derived.OpenShut
import Derived.ShutString
import Derived.ChangeOld
import Derived.Below
namespace Go.Proofs.Ytbiclpaakehgpaa.groupRight
open Go.ChangeShapes Go.WideShapes Go.ChangeAt Go.RowKit
set_option linter.unusedVariables false

theorem own : ownKnob Try.prog.godebug = none := by kernel_rfl
theorem laidOut : laidOutB Try.prog = true := by kernel_rfl

/-- What the walk is told of a slice of integers that came in. -/
def IsRow (k : IntKind) (w : World) (a : Option Addr) (len cap : Nat) (zs : List Int) : Prop :=
  (a = none ∧ len = 0 ∧ cap = 0 ∧ zs = []) ∨
  ∃ x, a = some x ∧ len ≤ cap ∧ cap ≤ maxLen ∧ zs.length = cap ∧ (∀ i, i < zs.length → w.cell? (x.add i) = some (.int k (zs.getD i 0))) ∧ ∀ n ∈ zs, (Lit.int k n).wf = true

set_option maxRecDepth 100000 in
set_option maxHeartbeats 1600000 in
theorem walk (b00 : Int) (b01 : Int) (a02 : Option Addr) (len02 cap02 : Nat) (z02 : List Int) (a1 : Int) (w : World) (w00 : (Lit.int .i32 b00).wf = true) (w01 : (Lit.int .u32 b01).wf = true) (w02 : IsRow .i64 w a02 len02 cap02 z02) (w1 : (Lit.int .i64 a1).wf = true) :
    Calls Try.prog 5 #[.agg #[.int .i32 b00, .int .u32 b01, .slice a02 len02 cap02], .int .i64 a1] w fun e w' => e = .returned (.bool true) ∧ Below w.heap.size w w' := by
  -- depth
  obtain ⟨x, hx, LX, MX⟩ := row_openG w02
  subst hx
  have zb := bounds_i32 w00
  have sb := bounds_u32 w01
  have HX : Hid (Lst .i64 w a02 x) := LX
  have NX : Hid (x.length ≤ maxLen) := MX
  clear w00 w01 w02 w1 LX MX
  by_cases hm : 400 < x.length
  · go_enter Try.func5, Try.ntmps5
    go_wp2_with (go_at_call 9; refine (gpAwake_any _).mono ?_; rintro e wa ⟨rfl, hba⟩; have BA : Hid (Below w.heap.size w wa) := below_then (box_over _ _) hba; clear hba)
    go_ret
    exact ⟨rfl, BA.out⟩
  have t0 : decide (400 < (x.length : Int)) = false := decide_eq_false (by omega)
  have B0 : Hid (Below w.heap.size w (w.alloc (.cells #[.int .i32 b00, .int .u32 b01, .slice a02 x.length cap02] 27))) := box_over _ _
  have X0 : Hid (Lst .i64 (w.alloc (.cells #[.int .i32 b00, .int .u32 b01, .slice a02 x.length cap02] 27)) a02 x) := HX.out.keep B0.out
  have G0 : Hid (Grp (w.alloc (.cells #[.int .i32 b00, .int .u32 b01, .slice a02 x.length cap02] 27)) 27 w.heap.size b00 b01 (.slice a02 x.length cap02)) := grp_new _ _ _ _ _
  clear HX
  rcases Gp.many_or x.length a1 with hbad | ⟨m, s, rfl, hst, h0, hl, hok⟩
  · obtain ⟨f, ef⟩ : ∃ f, Gp.many x.length a1 = f := ⟨_, rfl⟩
    rw [ef] at hbad
    have g0 : (f != 0) = true := by simp [hbad]
    have EF : Hid (Gp.many x.length a1 = f) := ef
    have HF : Hid (¬ f = 0) := hbad
    clear ef hbad hm
    go_enter Try.func5, Try.ntmps5
    go_wp2_with fail
    refine (right_bad _ _ _ _ _ _ f EF.out HF.out NX.out _).mono ?_
    rintro e u1 ⟨rfl, hb1⟩
    have G1 : Hid (Grp u1 27 w.heap.size b00 b01 (.slice a02 x.length cap02)) := G0.out.keep hb1
    have B1 : Hid (Below w.heap.size w u1) := below_then B0.out hb1
    obtain ⟨d0, d1, d2⟩ := G1.out.cells
    clear hb1 B0 X0 G0
    go_wp2_with fail
    refine (ref_any _ _ _ _ _ _).mono ?_
    rintro e u2 ⟨rfl, hb2⟩
    have B2 : Hid (Below w.heap.size w u2) := below_then B1.out hb2
    clear hb2 B1 G1 d0 d1 d2
    go_wp2_with fail
    refine (refRight_bad _ _ _ _ _ _ f EF.out HF.out NX.out _).mono ?_
    rintro e u3 ⟨rfl, hb3⟩
    have B3 : Hid (Below w.heap.size w u3) := below_then B2.out hb3
    clear hb3 B2
    go_wp2_with (go_at_call 9; refine (gpAwake_any _).mono ?_; rintro e wa ⟨rfl, hba⟩; have BA : Hid (Below w.heap.size w wa) := below_then B3.out hba; clear hba)
    go_ret
    exact ⟨rfl, BA.out⟩
  have HS : Hid (Gp.St m s) := hst
  have bs := hst.bd
  obtain ⟨f, ef⟩ : ∃ f, Gp.right s b01 x = f := ⟨_, rfl⟩
  have EF : Hid (Gp.right s b01 x = f) := ef
  clear ef hst hok hm
  by_cases hf : f = 0
  rotate_left
  · have g0 : (f != 0) = true := by simp [hf]
    clear hf
    go_enter Try.func5, Try.ntmps5
    go_wp2_with fail
    refine (right_any _ _ _ _ m s x f _ X0.out HS.out h0 hl sb.1 sb.2 EF.out).mono ?_
    rintro e u1 ⟨rfl, hb1⟩
    have G1 : Hid (Grp u1 27 w.heap.size b00 b01 (.slice a02 x.length cap02)) := G0.out.keep hb1
    have B1 : Hid (Below w.heap.size w u1) := below_then B0.out hb1
    have X1 : Hid (Lst .i64 u1 a02 x) := X0.out.keep hb1
    obtain ⟨d0, d1, d2⟩ := G1.out.cells
    clear hb1 B0 X0 G0
    go_wp2_with fail
    refine (ref_any _ _ _ _ _ _).mono ?_
    rintro e u2 ⟨rfl, hb2⟩
    have B2 : Hid (Below w.heap.size w u2) := below_then B1.out hb2
    have X2 : Hid (Lst .i64 u2 a02 x) := X1.out.keep hb2
    clear hb2 B1 G1 X1 d0 d1 d2
    go_wp2_with fail
    refine (refRight_any _ _ _ _ m s x f _ X2.out HS.out h0 hl sb.1 sb.2 EF.out).mono ?_
    rintro e u3 ⟨rfl, hb3⟩
    have B3 : Hid (Below w.heap.size w u3) := below_then B2.out hb3
    clear hb3 B2
    go_wp2_with (go_at_call 9; refine (gpAwake_any _).mono ?_; rintro e wa ⟨rfl, hba⟩; have BA : Hid (Below w.heap.size w wa) := below_then B3.out hba; clear hba)
    go_ret
    exact ⟨rfl, BA.out⟩
  subst hf
  have FT : Hid (Gp.fits 255 x = true) := by
    have := (Gp.right_zero EF.out).2.2
    exact Gp.fits_yes fun i hi => by have := Gp.fits_all this i hi; omega
  go_enter Try.func5, Try.ntmps5
  go_wp2_with fail
  refine (right_any _ _ _ _ m s x 0 _ X0.out HS.out h0 hl sb.1 sb.2 EF.out).mono ?_
  rintro e u1 ⟨rfl, hb1⟩
  have G1 : Hid (Grp u1 27 w.heap.size b00 b01 (.slice a02 x.length cap02)) := G0.out.keep hb1
  have B1 : Hid (Below w.heap.size w u1) := below_then B0.out hb1
  have X1 : Hid (Lst .i64 u1 a02 x) := X0.out.keep hb1
  obtain ⟨d0, d1, d2⟩ := G1.out.cells
  clear hb1 B0 X0 G0
  go_wp2_with fail
  refine (ref_any _ _ _ _ _ _).mono ?_
  rintro e u2 ⟨rfl, hb2⟩
  have B2 : Hid (Below w.heap.size w u2) := below_then B1.out hb2
  have X2 : Hid (Lst .i64 u2 a02 x) := X1.out.keep hb2
  have G2 : Hid (Grp u2 27 w.heap.size b00 b01 (.slice a02 x.length cap02)) := G1.out.keep hb2
  clear hb2 B1 G1 X1 d0 d1 d2
  go_wp2_with fail
  refine (refRight_any _ _ _ _ m s x 0 _ X2.out HS.out h0 hl sb.1 sb.2 EF.out).mono ?_
  rintro e u3 ⟨rfl, hb3⟩
  have B3 : Hid (Below w.heap.size w u3) := below_then B2.out hb3
  have X3 : Hid (Lst .i64 u3 a02 x) := X2.out.keep hb3
  have G3 : Hid (Grp u3 27 w.heap.size b00 b01 (.slice a02 x.length cap02)) := G2.out.keep hb3
  obtain ⟨d0, d1, d2⟩ := G3.out.cells
  clear hb3 B2 G2 X2
  go_wp2_with fail
  refine (back_any _ _ _ _ x _ X3.out hl FT.out zb.1 zb.2 sb.1 sb.2).mono ?_
  rintro e u4 ⟨g4, rfl, hg4, hL4, hb4⟩
  have B4 : Hid (Below w.heap.size w u4) := below_then B3.out hb4
  have X4 : Hid (Lst .i64 u4 a02 x) := X3.out.keep hb4
  have G4 : Hid (Grp u4 27 w.heap.size b00 b01 (.slice a02 x.length cap02)) := G3.out.keep hb4
  have L4 : Hid (Lst .i32 u4 (some ⟨g4, 0, none⟩) (Gp.means b00 b01 x)) := hL4
  clear d0 d1 d2 hb4 hg4 hL4 B3 G3 X3
  obtain ⟨d0, d1, d2⟩ := G4.out.cells
  go_wp2_with fail
  refine (ref_any _ _ _ _ _ _).mono ?_
  rintro e u5 ⟨rfl, hb5⟩
  have B5 : Hid (Below w.heap.size w u5) := below_then B4.out hb5
  have X5 : Hid (Lst .i64 u5 a02 x) := X4.out.keep hb5
  have G5 : Hid (Grp u5 27 w.heap.size b00 b01 (.slice a02 x.length cap02)) := G4.out.keep hb5
  have L5 : Hid (Lst .i32 u5 (some ⟨g4, 0, none⟩) (Gp.means b00 b01 x)) := L4.out.keep hb5
  clear d0 d1 d2 hb5 B4 G4 X4 L4
  go_wp2_with fail
  refine (refBack_any _ _ _ _ x _ X5.out hl FT.out zb.1 zb.2 sb.1 sb.2).mono ?_
  rintro e u6 ⟨a6, c6, rfl, hL6, hb6⟩
  have B6 : Hid (Below w.heap.size w u6) := below_then B5.out hb6
  have X6 : Hid (Lst .i64 u6 a02 x) := X5.out.keep hb6
  have G6 : Hid (Grp u6 27 w.heap.size b00 b01 (.slice a02 x.length cap02)) := G5.out.keep hb6
  have L6 : Hid (Lst .i32 u6 (some ⟨g4, 0, none⟩) (Gp.means b00 b01 x)) := L5.out.keep hb6
  have ML : Hid ((Gp.means b00 b01 x).length = x.length) := Gp.means_length _ _ _
  clear hb6 B5 G5 X5 L5
  go_wp2_with fail
  refine (same_anym _ _ _ _ _ _ (Gp.means b00 b01 x) (Gp.means b00 b01 x) _ ML.out.symm ML.out.symm L6.out hL6 (by rw [ML.out]; omega) rfl).mono ?_
  rintro e u ⟨rfl, hb7⟩
  have B7 : Hid (Below w.heap.size w u) := below_then B6.out hb7
  have X7 : Hid (Lst .i64 u a02 x) := X6.out.keep hb7
  have G7 : Hid (Grp u 27 w.heap.size b00 b01 (.slice a02 x.length cap02)) := G6.out.keep hb7
  have L7 : Hid (Lst .i32 u (some ⟨g4, 0, none⟩) (Gp.means b00 b01 x)) := L6.out.keep hb7
  obtain ⟨d0, d1, d2⟩ := G7.out.cells
  clear hb7 B6 G6 X6 L6 hL6
  go_wp2
  clear d0 d1 d2
  go_loopw [37] (fun i wr => ∃ k : Nat, k ≤ x.length ∧ i = .int .i64 k ∧ Below u.heap.size u wr) (fun i _ => x.length - (intOf i).toNat)
  case atStart => exact ⟨0, Nat.zero_le _, rfl, Below.refl _ _⟩
  case round =>
    obtain ⟨k, hk, rfl, hbel⟩ := hrel
    have HB : Hid (Below u.heap.size u wr) := hbel
    clear hbel
    by_cases hlt : k < x.length
    · obtain ⟨b1, o1, rfl, hc1⟩ := X7.out.get hlt
      have hck := hc1 k hlt
      have hck0 : wr.cell? ⟨b1, o1 + k, none⟩ = some (.int .i64 (Ls.nth x k)) := by rw [HB.out.cell (p := ⟨b1, o1 + k, none⟩) (World.block_lt_of_cell? u _ hck)]; exact hck
      have hmk : u.cell? ⟨g4, k, none⟩ = some (.int .i32 (Gp.mean b00 b01 (Ls.nth x k))) := by
        have := L7.out.cell0 (i := k) (by rw [ML.out]; exact hlt)
        rw [Gp.nth_means hlt] at this
        exact this
      have HM : Hid (u.cell? ⟨g4, k, none⟩ = some (.int .i32 (Gp.mean b00 b01 (Ls.nth x k)))) := hmk
      have hfk := Gp.fits_all FT.out k hlt
      obtain ⟨mn, emn⟩ : ∃ mn, Gp.mean b00 b01 (Ls.nth x k) = mn := ⟨_, rfl⟩
      have EM : Hid (Gp.mean b00 b01 (Ls.nth x k) = mn) := emn
      have KS : Hid (∀ w', Below u.heap.size u w' → (w'.cell? ⟨w.heap.size, 0, none⟩ = some (.int .i32 b00) ∧ w'.cell? ⟨w.heap.size, 1, none⟩ = some (.int .u32 b01) ∧ w'.cell? ⟨w.heap.size, 2, none⟩ = some (.slice (some ⟨b1, o1, none⟩) x.length cap02)) ∧ w'.cell? ⟨g4, k, none⟩ = some (.int .i32 mn) ∧ Hid (Below u.heap.size u w')) := fun w' hb =>
        ⟨(G7.out.keep hb).cells, by rw [hb.cell (p := ⟨g4, k, none⟩) (World.block_lt_of_cell? u _ HM.out), ← EM.out]; exact HM.out, hb⟩
      have e0 : (0 : Int) ≤ (k : Int) := by omega
      have e1 : (k : Int) < (x.length : Int) := by omega
      clear hc1 hck hmk emn
      go_wp2_with fail
      clear hck0
      go_region_held3 (fun w' => (w'.cell? ⟨w.heap.size, 0, none⟩ = some (.int .i32 b00) ∧ w'.cell? ⟨w.heap.size, 1, none⟩ = some (.int .u32 b01) ∧ w'.cell? ⟨w.heap.size, 2, none⟩ = some (.slice (some ⟨b1, o1, none⟩) x.length cap02)) ∧ w'.cell? ⟨g4, k, none⟩ = some (.int .i32 mn) ∧ Hid (Below u.heap.size u w'))
        (first
          | exact KS.out _ (HB.out.drew)
          | exact KS.out _ hbc.out
          | assumption)
        (first
          | (go_at_call 21; refine (one_any _ _ _ _ _ _ zb.1 zb.2 sb.1 sb.2 hfk.1 hfk.2 _).mono ?_; rintro e v1 ⟨rfl, hb⟩; rw [EM.out]; have hbc : Hid (Below u.heap.size u v1) := below_then (HB.out.drew) hb; clear hb))
      go_wp2
      go_roundw
      case rel => exact ⟨k + 1, by omega, by go_num, hbc.out⟩
      case measure => simp [intOf]; omega
    · go_wp2_with (go_at_call 9; refine (gpAwake_any _).mono ?_; rintro e wa ⟨rfl, hba⟩; have BA : Hid (Below w.heap.size w wa) := below_then (below_then B7.out HB.out) hba; clear hba)
      go_ret
      exact ⟨rfl, BA.out⟩

set_option maxRecDepth 100000 in
set_option maxHeartbeats 3200000 in
theorem lifted (os : Os) (started : os.Started) (H : Type) (enc : TypeId × Value → H) :
    ReturnsInHanded {} Try.checked os 5 .any (Rows.groupRightSpec.pre6 enc Try.prog Try.f5 Rows.groupRightRow.domain false) (Rows.groupRightSpec.post enc Try.prog Try.f5 false true false false) := by
  refine returnsInHanded_of_change (C := Try.checked) own started (by kernel_rfl) Try.func5
    (ChangeSpec.witness6 (enc := enc) (C := Try.checked) false ⟨#[], #[.agg #[.int .i32 0, .int .u32 0, .slice none 0 0], .int .i64 0], []⟩ 8 (by kernel_rfl) (by kernel_rfl) (by kernel_rfl) (by kernel_rfl)) ?_
  intro W base args ds gs before hval0 hW hcnd _
  have hval : ∀ (j : Nat) t v, Try.f5.params[j]? = some t → args[j]? = some v → Value.okWide Try.prog W .any base t v := hval0
  have hW' := hW
  obtain ⟨p, q, hA0, hV, rfl, hfz, hnd⟩ := hW
  have hA : DataW.TrodAll enc Try.prog W 0 (fun _ => true) true Try.f5.params.toList args.toList ds p := hA0
  rw [Try.params5] at hA hval
  obtain ⟨v0, vs0, d0, ds0, p0, q0, hargs, rfl, rfl, h0, r0⟩ := trodAll_cons hA
  obtain ⟨v1, vs1, d1, ds1, p1, q1, rfl, rfl, rfl, h1, r1⟩ := trodAll_cons r0
  obtain ⟨rfl, rfl, rfl⟩ := trodAll_nil r1
  obtain rfl : args = #[v0, v1] := by cases args; simp_all
  obtain ⟨rfl, rfl⟩ := trodVars_none hV
  obtain ⟨cs0, rfl, hsz0⟩ := okWide_struct Try.underlying27 (hval 0 27 v0 rfl rfl)
  have k0 := h0
  have lt0 : ∀ x ∈ p0, x.block < W.heap.size := by obtain ⟨m, hm⟩ := k0; exact DataW.trod_lt m _ _ _ hm
  rw [show Try.prog.cellsOf 27 = 3 by kernel_rfl] at hsz0
  obtain ⟨c00, c01, c02, rfl⟩ := cells3 hsz0
  obtain ⟨fuel0, hf0⟩ := h0
  obtain ⟨n0, hn0⟩ := open_fields Try.underlying27 (by kernel_rfl) (cs := [c00, c01, c02]) rfl hf0
  obtain ⟨y00, hy00⟩ := hn0 0 _ _ rfl rfl
  obtain ⟨b00, e00, _, w00⟩ := DataW.trod_int Try.underlying21 hy00
  simp only [List.cons.injEq, and_true] at e00
  subst e00
  obtain ⟨y01, hy01⟩ := hn0 1 _ _ rfl rfl
  obtain ⟨b01, e01, _, w01⟩ := DataW.trod_int Try.underlying24 hy01
  simp only [List.cons.injEq, and_true] at e01
  subst e01
  obtain ⟨y02, hy02⟩ := hn0 2 _ _ rfl rfl
  obtain ⟨a02, len02, cap02, z02, e02, w02⟩ : ∃ a len cap zs, c02 = .slice a len cap ∧ IsRow .i64 W a len cap zs := by
    rcases open_ints Try.underlying25 Try.underlying3 (by kernel_rfl) hy02 with ⟨hcs, _⟩ | ⟨x, l, c, zs, hcs, _, hl, hm, hz, _, hcell, hwz⟩
    · simp only [List.cons.injEq, and_true] at hcs
      exact ⟨none, 0, 0, [], hcs, .inl ⟨rfl, rfl, rfl, rfl⟩⟩
    · simp only [List.cons.injEq, and_true] at hcs
      exact ⟨some _, l, c, zs, hcs, .inr ⟨_, rfl, hl, hm, by simpa using hz, hcell, hwz⟩⟩
  subst e02
  obtain ⟨a1, rfl, rfl, rfl, w1⟩ := open_int Try.underlying3 (hval 1 3 v1 rfl rfl) h1
  clear hA0 hval0
  refine (walk b00 b01 a02 len02 cap02 z02 a1 W w00 w01 w02 w1).mono fun e W' ⟨he, bel⟩ => ?_
  subst he
  exact ⟨_, rfl, _, _, _, [], _, [], hW', trodAll_mk1 (shut_bool Try.underlying4 _), (trodAll_cons_mk (Below.trod laidOut (by kernel_rfl) (of_decide_eq_true (by kernel_rfl)) k0 bel lt0) (trodAll_cons_mk (shut_int Try.underlying3 w1) trodAll_mk0)), rfl, bel.frame _, fun h => by cases h⟩

theorem over : Rows.groupRightRow.holds Try.pinned (OpenSpec.ofChange Rows.groupRightSpec) :=
  OpenClaim.holds_of_wide 5 Try.f5 rfl rfl rfl rfl rfl rfl rfl ⟨rfl, rfl, rfl, rfl, rfl⟩ rfl rfl rfl rfl rfl (by kernel_rfl) Try.func5 (by kernel_rfl)
    (of_decide_eq_true (by kernel_rfl)) (by unfold Func.isWrapper; first | (rw [if_pos (by decide +kernel)]; kernel_rfl) | (rw [if_neg (by decide +kernel)]; exact ⟨rfl, rfl⟩))
    (fun os started H enc _ => lifted os started H enc)

theorem proved : Rows.GroupRightSaid := over
end Go.Proofs.Ytbiclpaakehgpaa.groupRight

namespace Go.Proofs.Ytbiclpaakehgpaa
theorem groupRight_holds : Rows.GroupRightSaid := groupRight.proved
#print axioms groupRight_holds
end Go.Proofs.Ytbiclpaakehgpaa
