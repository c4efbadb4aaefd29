/- Any scores have the weights that the document says, the greatest one's is the whole: SoftWeighs answers true for every input. -/
import Derived.Test.YtnpoaalopppanaaRows
import Derived.Test.YtnpoaalopppanaaSfAwake
import Derived.Deep.RegionWith
import Derived.WalkKit
import Derived.ProofKit
import Derived.OpenShut
import Derived.ShutString
import Derived.ChangeOld
import Derived.Below
namespace Go.Proofs.Ytnpoaalopppanaa.softWeighs
open Go.ChangeShapes Go.WideShapes Go.ChangeAt Go.RowKit
open Go.ChangeMaps (open_string shut_string)
set_option linter.unusedVariables false

theorem own : ownKnob Try.prog.godebug = none := by kernel_rfl
theorem laidOut : laidOutB Try.prog = true := by kernel_rfl

/-- WHAT THE WALK IS TOLD OF A SLICE OF INTEGERS THAT CAME IN: it is nil; or it leads to a row of 'cap' cells, the numbers 'zs' (the first 'len' are its elements, the rest its spare room), each fitting its kind. -/
def IsRow (k : IntKind) (w : World) (a : Option Addr) (len cap : Nat) (zs : List Int) : Prop :=
  (a = none ∧ len = 0 ∧ cap = 0 ∧ zs = []) ∨
  ∃ x, a = some x ∧ len ≤ cap ∧ cap ≤ maxLen ∧ zs.length = cap ∧ (∀ i, i < zs.length → w.cell? (x.add i) = some (.int k (zs.getD i 0))) ∧ ∀ n ∈ zs, (Lit.int k n).wf = true

set_option maxHeartbeats 1600000 in
theorem walk (a0 : Option Addr) (len0 cap0 : Nat) (z0 : List Int) (w : World) (w0 : IsRow .i32 w a0 len0 cap0 z0) :
    Calls Try.prog 3 #[.slice a0 len0 cap0] w fun e w' => e = .returned (.bool true) ∧ Below w.heap.size w w' := by
  obtain ⟨x, hx, LX, IX, MX, CX, DX, _⟩ := row_open w0
  subst hx
  have HX : Hid (Lst .i32 w a0 x) := LX
  have JX : Hid (Ls.In32 x) := IX
  clear w0 LX MX IX DX CX
  by_cases hm : 2000 < x.length
  · go_enter Try.func3, Try.ntmps3
    go_wp2_with (go_at_call 8; refine (sfAwake_any _).mono ?_; rintro e wa ⟨rfl, hb⟩)
    go_ret
    exact ⟨rfl, hb⟩
  by_cases h0 : x.length = 0
  · have e0 : x = [] := List.length_eq_zero_iff.1 h0
    subst e0
    clear hm h0
    go_enter Try.func3, Try.ntmps3
    go_wp2_with (first
      | (go_at_call 9; refine (weights_none _ _ _).mono ?_; rintro e w' ⟨rfl, hww⟩; cases hww.symm; clear hww)
      | (go_at_call 8; refine (sfAwake_any _).mono ?_; rintro e wa ⟨rfl, hb⟩))
    go_ret
    exact ⟨rfl, hb⟩
  by_cases h1 : 1024 < x.length
  · go_enter Try.func3, Try.ntmps3
    go_wp2_with (first
      | (go_at_call 9; refine (weights_many _ _ _ _ h1).mono ?_; rintro e w' ⟨rfl, hww⟩; cases hww.symm; clear hww)
      | (go_at_call 8; refine (sfAwake_any _).mono ?_; rintro e wa ⟨rfl, hb⟩))
    go_ret
    exact ⟨rfl, hb⟩
  have hp : 0 < x.length := by omega
  have hl : x.length ≤ 1024 := by omega
  clear h0 h1 hm
  have EL : Hid ((Tb.weights x).length = x.length) := Tb.weights_length x
  go_enter Try.func3, Try.ntmps3
  go_wp2_with fail
  refine (weights_ok _ _ _ _ HX.out hp hl JX.out).mono ?_
  rintro e u1 ⟨g1, rfl, _, h1, hB⟩
  have W1 : Hid (Below w.heap.size w u1) := hB
  have X1 : Hid (Lst .i32 u1 a0 x) := HX.out.keep hB
  have P1 : Hid (Lst .i64 u1 (some ⟨g1, 0, none⟩) (Tb.weights x)) := h1
  clear hB h1
  go_wp2_with fail
  refine (refWeights_any _ _ _ _ X1.out hp hl JX.out).mono ?_
  rintro e u2 ⟨v2, rfl, h2, hB⟩
  obtain ⟨a2, c2, rfl, h3⟩ := lst_of_ownm h2 EL.out.symm
  have W2 : Hid (Below w.heap.size w u2) := below_then W1.out hB
  have X2 : Hid (Lst .i32 u2 a0 x) := X1.out.keep hB
  have P2 : Hid (Lst .i64 u2 (some ⟨g1, 0, none⟩) (Tb.weights x)) := P1.out.keep hB
  have R2 : Hid (Lst .i64 u2 a2 (Tb.weights x)) := h3
  clear hB h2 h3 W1 X1 P1
  go_wp2_with fail
  refine (sameI_anym _ _ _ _ _ _ _ _ _ EL.out.symm EL.out.symm P2.out R2.out (by rw [EL.out]; omega) rfl).mono ?_
  rintro e u3 ⟨rfl, hB⟩
  have W3 : Hid (Below w.heap.size w u3) := below_then W2.out hB
  have X3 : Hid (Lst .i32 u3 a0 x) := X2.out.keep hB
  have P3 : Hid (Lst .i64 u3 (some ⟨g1, 0, none⟩) (Tb.weights x)) := P2.out.keep hB
  have R3 : Hid (Lst .i64 u3 a2 (Tb.weights x)) := R2.out.keep hB
  clear hB W2 X2 P2 R2
  go_wp2_with fail
  refine (refTop_any _ _ _ _ X3.out (by omega)).mono ?_
  rintro e u4 ⟨rfl, n4, hw4⟩
  have hB : Below u3.heap.size u3 u4 := by rw [hw4]; exact below_drewN (Below.refl _ _) _
  have htl := Ls.top_lt hp
  have hct := (P3.out.keep hB).cell0 (i := Ls.top x) (by rw [EL.out]; exact htl)
  rw [Tb.nth_weights htl, Tb.wt_top] at hct
  obtain ⟨t, et⟩ : ∃ t, Ls.top x = t := ⟨_, rfl⟩
  rw [et] at htl hct
  rw [et]
  have W4 : Hid (Below w.heap.size w u4) := below_then W3.out hB
  have P4 : Hid (Lst .i64 u4 (some ⟨g1, 0, none⟩) (Tb.weights x)) := P3.out.keep hB
  have R4 : Hid (Lst .i64 u4 a2 (Tb.weights x)) := R3.out.keep hB
  clear hB W3 X3 P3 R3 et hw4
  go_wp2_with fail
  refine (sum_anym _ _ _ _ _ EL.out.symm P4.out (Tb.weights_wts x) (by rw [EL.out]; omega)).mono ?_
  rintro e w' ⟨rfl, hww⟩
  cases hww.symm
  clear hww
  go_wp2_with fail
  refine (refSum_anym _ _ _ _ _ EL.out.symm R4.out (Tb.weights_wts x) (by rw [EL.out]; omega)).mono ?_
  rintro e w' ⟨rfl, hww⟩
  cases hww.symm
  clear hww
  go_wp2_with (go_at_call 8; refine (sfAwake_any _).mono ?_; rintro e wa ⟨rfl, hb⟩)
  go_ret
  exact ⟨rfl, below_then W4.out hb⟩

set_option maxRecDepth 100000 in
theorem lifted (os : Os) (started : os.Started) (H : Type) (enc : TypeId × Value → H) :
    ReturnsInHanded {} Try.checked os 3 .any (Rows.softWeighsSpec.pre6 enc Try.prog Try.f3 Rows.softWeighsRow.domain false) (Rows.softWeighsSpec.post enc Try.prog Try.f3 false true false false) := by
  refine returnsInHanded_of_change (C := Try.checked) own started (by kernel_rfl) Try.func3
    (ChangeSpec.witness6 (enc := enc) (C := Try.checked) false ⟨#[], #[.slice none 0 0], []⟩ 8 (by kernel_rfl) (by kernel_rfl) (by kernel_rfl) (by kernel_rfl)) ?_
  intro W base args ds gs before hval0 hW hcnd _
  have hval : ∀ (j : Nat) t v, Try.f3.params[j]? = some t → args[j]? = some v → Value.okWide Try.prog W .any base t v := hval0
  have hW' := hW
  obtain ⟨p, q, hA0, hV, rfl, hfz, hnd⟩ := hW
  have hA : DataW.TrodAll enc Try.prog W 0 (fun _ => true) true Try.f3.params.toList args.toList ds p := hA0
  rw [Try.params3] at hA hval
  obtain ⟨v0, vs0, d0, ds0, p0, q0, hargs, rfl, rfl, h0, r0⟩ := trodAll_cons hA
  obtain ⟨rfl, rfl, rfl⟩ := trodAll_nil r0
  obtain rfl : args = #[v0] := by cases args; simp_all
  obtain ⟨rfl, rfl⟩ := trodVars_none hV
  obtain ⟨a0, len0, cap0, rfl⟩ := okWide_slice Try.underlying22 (hval 0 22 v0 rfl rfl)
  have k0 := h0
  have lt0 : ∀ x ∈ p0, x.block < W.heap.size := by obtain ⟨m, hm⟩ := k0; exact DataW.trod_lt m _ _ _ hm
  obtain ⟨z0, w0⟩ : ∃ zs, IsRow .i32 W a0 len0 cap0 zs := by
    obtain ⟨fuel, hf⟩ := h0
    rcases open_ints Try.underlying22 Try.underlying21 (by kernel_rfl) hf with ⟨hcs, _⟩ | ⟨x, l, c, zs, hcs, _, hl, hm, hz, _, hcell, hwz⟩
    · simp [Value.cells] at hcs
      obtain ⟨rfl, rfl, rfl⟩ := hcs
      exact ⟨[], .inl ⟨rfl, rfl, rfl, rfl⟩⟩
    · simp [Value.cells] at hcs
      obtain ⟨rfl, rfl, rfl⟩ := hcs
      exact ⟨zs, .inr ⟨_, rfl, hl, hm, by simpa using hz, hcell, hwz⟩⟩
  clear hA0 hval0
  refine (walk a0 len0 cap0 z0 W w0).mono fun e W' ⟨he, bel⟩ => ?_
  subst he
  exact ⟨_, rfl, _, _, _, [], _, [], hW', trodAll_mk1 (shut_bool Try.underlying4 _), (trodAll_cons_mk (Below.trod laidOut (by kernel_rfl) (of_decide_eq_true (by kernel_rfl)) k0 bel lt0) trodAll_mk0), rfl, bel.frame _, fun h => by cases h⟩

theorem over : Rows.softWeighsRow.holds Try.pinned (OpenSpec.ofChange Rows.softWeighsSpec) :=
  OpenClaim.holds_of_wide 3 Try.f3 rfl rfl rfl rfl rfl rfl rfl ⟨rfl, rfl, rfl, rfl, rfl⟩ rfl rfl rfl rfl rfl (by kernel_rfl) Try.func3 (by kernel_rfl)
    (of_decide_eq_true (by kernel_rfl)) (by unfold Func.isWrapper; first | (rw [if_pos (by decide +kernel)]; kernel_rfl) | (rw [if_neg (by decide +kernel)]; exact ⟨rfl, rfl⟩))
    (fun os started H enc _ => lifted os started H enc)

theorem proved : Rows.SoftWeighsSaid := over
end Go.Proofs.Ytnpoaalopppanaa.softWeighs

namespace Go.Proofs.Ytnpoaalopppanaa
theorem softWeighs_holds : Rows.SoftWeighsSaid := softWeighs.proved
#print axioms softWeighs_holds
end Go.Proofs.Ytnpoaalopppanaa
