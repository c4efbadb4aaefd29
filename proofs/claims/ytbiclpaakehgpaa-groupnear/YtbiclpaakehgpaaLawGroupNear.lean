/- What grouped numbers mean is no further from them than half of the scale, which is no more than it must; the least one is meant as it is: GroupNear answers true for every input. -/
import Derived.Test.YtbiclpaakehgpaaRows
import Derived.Test.YtbiclpaakehgpaaGpNames
import Derived.WalkKit
import Derived.ProofKit
import Derived.OpenShut
import Derived.ShutString
import Derived.ChangeOld
import Derived.Below
namespace Go.Proofs.Ytbiclpaakehgpaa.groupNear
open Go.ChangeShapes Go.WideShapes Go.ChangeAt Go.RowKit
open Go.ChangeMaps (open_string shut_string)
set_option linter.unusedVariables false

theorem own : ownKnob Try.prog.godebug = none := by kernel_rfl
theorem laidOut : laidOutB Try.prog = true := by kernel_rfl

/-- WHAT THE WALK IS TOLD OF A SLICE OF INTEGERS THAT CAME IN: it is nil; or it leads to a row of 'cap' cells, the numbers 'zs' (the first 'len' are its elements, the rest its spare room), each fitting its kind. -/
def IsRow (k : IntKind) (w : World) (a : Option Addr) (len cap : Nat) (zs : List Int) : Prop :=
  (a = none ∧ len = 0 ∧ cap = 0 ∧ zs = []) ∨
  ∃ x, a = some x ∧ len ≤ cap ∧ cap ≤ maxLen ∧ zs.length = cap ∧ (∀ i, i < zs.length → w.cell? (x.add i) = some (.int k (zs.getD i 0))) ∧ ∀ n ∈ zs, (Lit.int k n).wf = true

set_option maxRecDepth 100000 in
set_option maxHeartbeats 1600000 in
theorem walk (a0 : Option Addr) (len0 cap0 : Nat) (z0 : List Int) (a1 : Int) (w : World) (w0 : IsRow .i32 w a0 len0 cap0 z0) (w1 : (Lit.int .i64 a1).wf = true) :
    Calls Try.prog 4 #[.slice a0 len0 cap0, .int .i64 a1] w fun e w' => e = .returned (.bool true) ∧ Below w.heap.size w w' := by
  -- depth
  obtain ⟨x, hx, LX, IX, MX, CX, DX, FX⟩ := row_open w0
  subst hx
  have HX : Hid (Lst .i32 w a0 x) := LX
  have HI : Hid (Ls.In32 x) := IX
  have NX : Hid (x.length ≤ maxLen) := MX
  clear w0 w1 LX IX MX CX DX FX
  by_cases hm : 256 < x.length
  · go_enter Try.func4, Try.ntmps4
    go_wp2_with (go_at_call 9; refine (gpAwake_any _).mono ?_; rintro e wa ⟨rfl, hba⟩)
    go_ret
    exact ⟨rfl, hba⟩
  rcases Gp.many_or x.length a1 with hbad | ⟨m, s, rfl, hst, h0, hl, hok⟩
  · obtain ⟨f, ef⟩ : ∃ f, Gp.many x.length a1 = f := ⟨_, rfl⟩
    rw [ef] at hbad
    have g0 : (f != 0) = true := by simp [hbad]
    have EF : Hid (Gp.many x.length a1 = f) := ef
    clear ef hbad HX HI
    go_enter Try.func4, Try.ntmps4
    go_wp2_with (first
      | (go_at_call 11; refine (refMany_any _ _ f EF.out NX.out _).mono ?_; rintro e w' ⟨rfl, hw⟩; cases hw.symm; clear hw)
      | (go_at_call 9; refine (gpAwake_any _).mono ?_; rintro e wa ⟨rfl, hba⟩))
    go_ret
    exact ⟨rfl, hba⟩
  obtain ⟨z, ez⟩ : ∃ z, Gp.low x = z := ⟨_, rfl⟩
  obtain ⟨sc, es⟩ : ∃ sc, Gp.scale s x = sc := ⟨_, rfl⟩
  obtain ⟨y, ey⟩ : ∃ y, Gp.high x = y := ⟨_, rfl⟩
  have bs := hst.bd
  have sb := Gp.scale_bd (s := (s : Int)) HI.out (by omega)
  rw [es] at sb
  have zb : -2147483648 ≤ z ∧ z ≤ 2147483647 := by rw [← ez]; exact Gp.lowN_in HI.out x.length
  have yb : -2147483648 ≤ y ∧ y ≤ 2147483647 := by rw [← ey]; exact Gp.highN_in HI.out x.length
  have hrt := Gp.grouped_right (s := (s : Int)) HI.out (by omega)
  rw [ez, es] at hrt
  have hup := Gp.up_char (d := Gp.high x - Gp.low x) (s := (s : Int)) (by omega)
  have hup : y - z ≤ sc * s ∧ (sc - 1) * s < y - z := by
    rw [← es, ← ey, ← ez]; exact hup
  have EZ : Hid (Gp.low x = z) := ez
  have EY : Hid (Gp.high x = y) := ey
  have ES : Hid (Gp.scale s x = sc) := es
  have OK : Hid (Gp.many x.length (m : Int) = 0) := hok
  have HS : Hid (Gp.St m s) := hst
  have FT : Hid (Gp.fits 255 (Gp.codes z sc x) = true) := by
    have := (Gp.right_zero hrt).2.2
    exact Gp.fits_yes fun i hi => by have := Gp.fits_all this i hi; omega
  have EL : Hid ((Gp.codes z sc x).length = x.length) := Gp.codes_length _ _ _
  have ML : Hid ((Gp.means z sc (Gp.codes z sc x)).length = x.length) := by show _ = _; rw [Gp.means_length, EL.out]
  have NR : Hid (∀ i, i < x.length → 2 * (Ls.nth (Gp.means z sc (Gp.codes z sc x)) i - Ls.nth x i) ≤ sc ∧ -sc ≤ 2 * (Ls.nth (Gp.means z sc (Gp.codes z sc x)) i - Ls.nth x i)) := fun i hi => by
    have := Gp.grouped_near (s := (s : Int)) HI.out (by omega) hi
    rw [ez, es] at this
    exact this
  have LO : Hid (∀ i, i < x.length → Ls.nth x i = z → Ls.nth (Gp.means z sc (Gp.codes z sc x)) i = Ls.nth x i) := fun i hi e => by
    have := Gp.grouped_low (s := (s : Int)) HI.out hi (by rw [ez]; exact e)
    rw [ez, es] at this
    exact this
  clear ez es ey hok hst hrt
  have p1 : 0 ≤ sc * s := Int.mul_nonneg sb.1 (by omega)
  have p2 : sc * s ≤ sc * 255 := Int.mul_le_mul_of_nonneg_left (by omega) sb.1
  have p3 : (sc - 1) * s = sc * s - s := by rw [Int.sub_mul, Int.one_mul]
  have t0 : decide (256 < (x.length : Int)) = false := decide_eq_false (by omega)
  obtain ⟨bx, ox, rfl, hcx⟩ := HX.out.get h0
  clear hm
  go_enter Try.func4, Try.ntmps4
  go_wp2_with (first
    | (go_at_call 11; refine (refMany_any _ _ 0 OK.out NX.out _).mono ?_; rintro e w' ⟨rfl, hw⟩; cases hw.symm; clear hw))
  refine (of_ok _ _ m s x _ HX.out HI.out HS.out h0 hl z sc EZ.out ES.out).mono ?_
  rintro e u1 ⟨g1, rfl, hg1, hL1, hb1⟩
  have B1 : Hid (Below w.heap.size w u1) := hb1
  have X1 : Hid (Lst .i32 u1 (some ⟨bx, ox, none⟩) x) := HX.out.keep hb1
  have L1 : Hid (Lst .i64 u1 (some ⟨g1, 0, none⟩) (Gp.codes z sc x)) := hL1
  clear hg1 hL1 hb1 HX hcx
  go_wp2_with fail
  refine (back_anym _ _ _ _ _ (Gp.codes z sc x) _ EL.out.symm (L1.out.keep (box_over _ _)) hl FT.out zb.1 zb.2 sb.1 (by omega)).mono ?_
  rintro e u ⟨g2, rfl, hg2, hL2, hb2⟩
  have G2 : Hid (Grp u 27 u1.heap.size z sc (.slice (some ⟨g1, 0, none⟩) x.length x.length)) := (grp_new _ _ _ _ _).keep hb2
  have B2 : Hid (Below w.heap.size w u) := below_then (below_then B1.out (box_over _ _)) hb2
  have X2 : Hid (Lst .i32 u (some ⟨bx, ox, none⟩) x) := (X1.out.keep (box_over _ _)).keep hb2
  have L2 : Hid (Lst .i32 u (some ⟨g2, 0, none⟩) (Gp.means z sc (Gp.codes z sc x))) := hL2
  have XC : Hid (∀ j, j < x.length → u.cell? ⟨bx, ox + j, none⟩ = some (.int .i32 (Ls.nth x j))) := by
    obtain ⟨b', o', e', hc'⟩ := X2.out.get h0
    cases e'
    exact hc'
  have hc0 : u.cell? ⟨bx, ox, none⟩ = some (.int .i32 (Ls.nth x 0)) := by have := XC.out 0 h0; rwa [Nat.add_zero] at this
  clear hg2 hL2 hb2 B1 X1 L1
  go_wp2
  go_quiet (fail)
  go_wp2
  clear hc0
  go_loop [8, 9, 51] (fun lo hi i => ∃ k : Nat, k ≤ x.length ∧ i = .int .i64 k ∧ lo = .int .i32 (Gp.lowN x k) ∧ hi = .int .i32 (Gp.highN x k)) (fun _ _ i => x.length - (intOf i).toNat)
  case atStart => exact ⟨0, Nat.zero_le _, rfl, rfl, rfl⟩
  case round =>
    obtain ⟨k, hk, rfl, rfl, rfl⟩ := hrel
    by_cases hlt : k < x.length
    · have hck := XC.out k hlt
      have e1 : (if Ls.nth x k < Gp.lowN x k then Ls.nth x k else Gp.lowN x k) = Gp.lowN x (k + 1) := rfl
      have e2 : (if Gp.highN x k < Ls.nth x k then Ls.nth x k else Gp.highN x k) = Gp.highN x (k + 1) := rfl
      go_wp2
      go_round
      case rel => exact ⟨k + 1, by omega, by go_num, rfl, rfl⟩
      case measure => simp [intOf]; omega
    · have e : k = x.length := by omega
      subst e
      rw [show Gp.lowN x x.length = z from EZ.out, show Gp.highN x x.length = y from EY.out]
      obtain ⟨d0, d1, d2⟩ := G2.out.cells
      have q1 : decide (sc * s < y - z) = false := decide_eq_false (by omega)
      have q2 : decide (y - z ≤ (sc - 1) * s) = false := decide_eq_false (by omega)
      obtain ⟨q, q3⟩ : ∃ q, decide (0 < sc) = q := ⟨_, rfl⟩
      cases q
      all_goals
        go_wp2
        go_quiet ((go_at_call 19; exact (steps_any _ _ HS.out _).mono fun _ _ ⟨he, hw⟩ => ⟨he, _, hw⟩))
        go_wp2
        go_loop [102] (fun i => ∃ k : Nat, k ≤ x.length ∧ i = .int .i64 k) (fun i => x.length - (intOf i).toNat)
        case atStart => exact ⟨0, Nat.zero_le _, rfl⟩
        case round =>
          obtain ⟨k, hk, rfl⟩ := hrel
          by_cases hlt : k < x.length
          · have hck := XC.out k hlt
            have hmk : u.cell? ⟨g2, k, none⟩ = some (.int .i32 (Ls.nth (Gp.means z sc (Gp.codes z sc x)) k)) := L2.out.cell0 (i := k) (by rw [ML.out]; exact hlt)
            have hnr := NR.out k hlt
            have hlo := LO.out k hlt
            have hxk := HI.out k
            obtain ⟨mk, emk⟩ : ∃ mk, Ls.nth (Gp.means z sc (Gp.codes z sc x)) k = mk := ⟨_, rfl⟩
            have hmb : -2147483648 ≤ mk ∧ mk ≤ 2147483647 := by
              rw [← emk, Gp.nth_means (by rw [EL.out]; exact hlt)]
              exact Gp.mean_in _ _ _
            rw [emk] at hmk hnr hlo
            clear emk
            have r1 : decide (sc < 2 * (mk - Ls.nth x k)) = false := decide_eq_false (by omega)
            have r2 : decide (sc < -(2 * (mk - Ls.nth x k))) = false := decide_eq_false (by omega)
            by_cases hz : Ls.nth x k = z
            · have e1 : mk = Ls.nth x k := hlo hz
              have HE1 : Hid (mk = Ls.nth x k) := e1
              have r3 : (Ls.nth x k == z) = true := beq_iff_eq.2 hz
              have r4 : (mk != Ls.nth x k) = false := by rw [e1]; simp
              clear hlo hz e1
              go_wp2
              go_round
              case rel => exact ⟨k + 1, by omega, by go_num⟩
              case measure => simp [intOf]; omega
            · have r3 : (Ls.nth x k == z) = false := beq_eq_false_iff_ne.2 hz
              clear hlo hz
              go_wp2
              go_round
              case rel => exact ⟨k + 1, by omega, by go_num⟩
              case measure => simp [intOf]; omega
          · go_wp2_with (go_at_call 9; refine (gpAwake_any _).mono ?_; rintro e wa ⟨rfl, hba⟩; have BA : Hid (Below w.heap.size w wa) := below_then (below_drewN B2.out _) hba; clear hba)
            go_ret
            exact ⟨rfl, BA.out⟩

set_option maxRecDepth 100000 in
theorem lifted (os : Os) (started : os.Started) (H : Type) (enc : TypeId × Value → H) :
    ReturnsInHanded {} Try.checked os 4 .any (Rows.groupNearSpec.pre6 enc Try.prog Try.f4 Rows.groupNearRow.domain false) (Rows.groupNearSpec.post enc Try.prog Try.f4 false true false false) := by
  refine returnsInHanded_of_change (C := Try.checked) own started (by kernel_rfl) Try.func4
    (ChangeSpec.witness6 (enc := enc) (C := Try.checked) false ⟨#[], #[.slice none 0 0, .int .i64 0], []⟩ 8 (by kernel_rfl) (by kernel_rfl) (by kernel_rfl) (by kernel_rfl)) ?_
  intro W base args ds gs before hval0 hW hcnd _
  have hval : ∀ (j : Nat) t v, Try.f4.params[j]? = some t → args[j]? = some v → Value.okWide Try.prog W .any base t v := hval0
  have hW' := hW
  obtain ⟨p, q, hA0, hV, rfl, hfz, hnd⟩ := hW
  have hA : DataW.TrodAll enc Try.prog W 0 (fun _ => true) true Try.f4.params.toList args.toList ds p := hA0
  rw [Try.params4] at hA hval
  obtain ⟨v0, vs0, d0, ds0, p0, q0, hargs, rfl, rfl, h0, r0⟩ := trodAll_cons hA
  obtain ⟨v1, vs1, d1, ds1, p1, q1, rfl, rfl, rfl, h1, r1⟩ := trodAll_cons r0
  obtain ⟨rfl, rfl, rfl⟩ := trodAll_nil r1
  obtain rfl : args = #[v0, v1] := by cases args; simp_all
  obtain ⟨rfl, rfl⟩ := trodVars_none hV
  obtain ⟨a0, len0, cap0, rfl⟩ := okWide_slice Try.underlying22 (hval 0 22 v0 rfl rfl)
  have k0 := h0
  have lt0 : ∀ x ∈ p0, x.block < W.heap.size := by obtain ⟨m, hm⟩ := k0; exact DataW.trod_lt m _ _ _ hm
  obtain ⟨z0, w0⟩ : ∃ zs, IsRow .i32 W a0 len0 cap0 zs := by
    obtain ⟨fuel, hf⟩ := h0
    rcases open_ints Try.underlying22 Try.underlying21 (by kernel_rfl) hf with ⟨hcs, _⟩ | ⟨x, l, c, zs, hcs, _, hl, hm, hz, _, hcell, hwz⟩
    · simp [Value.cells] at hcs
      obtain ⟨rfl, rfl, rfl⟩ := hcs
      exact ⟨[], .inl ⟨rfl, rfl, rfl, rfl⟩⟩
    · simp [Value.cells] at hcs
      obtain ⟨rfl, rfl, rfl⟩ := hcs
      exact ⟨zs, .inr ⟨_, rfl, hl, hm, by simpa using hz, hcell, hwz⟩⟩
  obtain ⟨a1, rfl, rfl, rfl, w1⟩ := open_int Try.underlying3 (hval 1 3 v1 rfl rfl) h1
  clear hA0 hval0
  refine (walk a0 len0 cap0 z0 a1 W w0 w1).mono fun e W' ⟨he, bel⟩ => ?_
  subst he
  exact ⟨_, rfl, _, _, _, [], _, [], hW', trodAll_mk1 (shut_bool Try.underlying4 _), (trodAll_cons_mk (Below.trod laidOut (by kernel_rfl) (of_decide_eq_true (by kernel_rfl)) k0 bel lt0) (trodAll_cons_mk (shut_int Try.underlying3 w1) trodAll_mk0)), rfl, bel.frame _, fun h => by cases h⟩

theorem over : Rows.groupNearRow.holds Try.pinned (OpenSpec.ofChange Rows.groupNearSpec) :=
  OpenClaim.holds_of_wide 4 Try.f4 rfl rfl rfl rfl rfl rfl rfl ⟨rfl, rfl, rfl, rfl, rfl⟩ rfl rfl rfl rfl rfl (by kernel_rfl) Try.func4 (by kernel_rfl)
    (of_decide_eq_true (by kernel_rfl)) (by unfold Func.isWrapper; first | (rw [if_pos (by decide +kernel)]; kernel_rfl) | (rw [if_neg (by decide +kernel)]; exact ⟨rfl, rfl⟩))
    (fun os started H enc _ => lifted os started H enc)

theorem proved : Rows.GroupNearSaid := over
end Go.Proofs.Ytbiclpaakehgpaa.groupNear

namespace Go.Proofs.Ytbiclpaakehgpaa
theorem groupNear_holds : Rows.GroupNearSaid := groupNear.proved
#print axioms groupNear_holds
end Go.Proofs.Ytbiclpaakehgpaa
