/- Any whole number of 64 bits has the root whose square is not above it while the next one's is, and a square's root is the number: for any two numbers, with no condition. -/
import Derived.Test.YtnmgkmbfmjlnmaaRows
import Derived.Test.YtnmgkmbfmjlnmaaExAwake
import Derived.WalkKit
import Derived.ProofKit
import Derived.OpenShut
import Derived.ShutString
namespace Go.Proofs.Ytnmgkmbfmjlnmaa.expoRoots
open Go.ChangeShapes Go.WideShapes Go.ChangeAt Go.RowKit
open Go.ChangeMaps (open_string shut_string)
set_option linter.unusedVariables false

theorem own : ownKnob Try.prog.godebug = none := by kernel_rfl

theorem walk (a0 : Int) (a1 : Int) (w0 : (Lit.int .u64 a0).wf = true) (w1 : (Lit.int .u32 a1).wf = true) (w : World) :
    Calls Try.prog 5 #[.int .u64 a0, .int .u32 a1] w fun e w' => e = .returned (.bool true) ∧ Grown w w' := by
  have b0 := bounds_u64 w0
  have b1 := bounds_u32 w1
  have rc := Ex.root_char a0 b0.1 b0.2
  obtain ⟨c1, c2, c3, c4⟩ := rc
  have s0 : 0 ≤ a1 * a1 := Int.mul_nonneg b1.1 b1.1
  have s1 : a1 * a1 ≤ 4294967295 * 4294967295 := Int.mul_le_mul b1.2 b1.2 b1.1 (by omega)
  have s2 : a1 * a1 ≤ 18446744065119617025 := by omega
  clear s1
  have ES : Hid (Ex.root (a1 * a1) = a1) := Ex.root_sq a1 b1.1 b1.2
  obtain ⟨r, er⟩ : ∃ r, Ex.root a0 = r := ⟨_, rfl⟩
  rw [er] at c1 c2 c3 c4
  have ER : Hid (Ex.root a0 = r) := er
  clear er
  have q0 : 0 ≤ r * r := Int.mul_nonneg c1 c1
  by_cases hm : r < 4294967295
  · have q1 : (r + 1) * (r + 1) ≤ 4294967295 * 4294967295 := Int.mul_le_mul (by omega) (by omega) (by omega) (by omega)
    have q2 : 0 ≤ (r + 1) * (r + 1) := by omega
    have q3 : (r + 1) * (r + 1) ≤ 18446744065119617025 := by omega
    clear q1
    go_enter Try.func5, Try.ntmps5
    go_wp2_with (first
      | (go_at_call 12; refine (root_any _ (by omega) (by omega) _).mono ?_; rintro e w' ⟨rfl, rfl⟩; first | rw [ER.out] | rw [ES.out])
      | (go_at_call 13; refine (refRoot_any _ (by omega) (by omega) _).mono ?_; rintro e w' ⟨rfl, rfl⟩; rw [ER.out])
      | (go_at_call 10; refine (exAwake_any _).mono ?_; rintro e w' ⟨rfl, n1, rfl⟩))
    go_ret
    exact ⟨rfl, Grown.refl _⟩
  · clear c4
    go_enter Try.func5, Try.ntmps5
    go_wp2_with (first
      | (go_at_call 12; refine (root_any _ (by omega) (by omega) _).mono ?_; rintro e w' ⟨rfl, rfl⟩; first | rw [ER.out] | rw [ES.out])
      | (go_at_call 13; refine (refRoot_any _ (by omega) (by omega) _).mono ?_; rintro e w' ⟨rfl, rfl⟩; rw [ER.out])
      | (go_at_call 10; refine (exAwake_any _).mono ?_; rintro e w' ⟨rfl, n1, rfl⟩))
    go_ret
    exact ⟨rfl, Grown.refl _⟩

set_option maxRecDepth 100000 in
theorem lifted (os : Os) (started : os.Started) (H : Type) (enc : TypeId × Value → H) :
    ReturnsInHanded {} Try.checked os 5 .any (Rows.expoRootsSpec.pre6 enc Try.prog Try.f5 Rows.expoRootsRow.domain false) (Rows.expoRootsSpec.post enc Try.prog Try.f5 false true false false) := by
  refine returnsInHanded_of_change (C := Try.checked) own started (by kernel_rfl) Try.func5
    (ChangeSpec.witness6 (enc := enc) (C := Try.checked) false ⟨#[], #[.int .u64 0, .int .u32 0], []⟩ 8 (by kernel_rfl) (by kernel_rfl) (by kernel_rfl) (by kernel_rfl)) ?_
  intro W base args ds gs before hval0 hW hcnd _
  have hval : ∀ (j : Nat) t v, Try.f5.params[j]? = some t → args[j]? = some v → Value.okWide Try.prog W .any base t v := hval0
  have hW' := hW
  obtain ⟨p, q, hA0, hV, rfl, hfz, hnd⟩ := hW
  have hA : DataW.TrodAll enc Try.prog W 0 (fun _ => true) true Try.f5.params.toList args.toList ds p := hA0
  rw [Try.params5] at hA hval
  obtain ⟨v0, vs0, d0, ds0, p0, q0, hargs, rfl, rfl, h0, r0⟩ := trodAll_cons hA
  obtain ⟨v1, vs1, d1, ds1, p1, q1, rfl, rfl, rfl, h1, r1⟩ := trodAll_cons r0
  obtain ⟨rfl, rfl, rfl⟩ := trodAll_nil r1
  obtain rfl : args = #[v0, v1] := by cases args; simp_all
  obtain ⟨rfl, rfl⟩ := trodVars_none hV
  obtain ⟨a0, rfl, rfl, rfl, w0⟩ := open_int Try.underlying27 (hval 0 27 v0 rfl rfl) h0
  obtain ⟨a1, rfl, rfl, rfl, w1⟩ := open_int Try.underlying28 (hval 1 28 v1 rfl rfl) h1
  clear hA0 hval0
  simp only [List.append_nil] at hW'
  refine (walk a0 a1 w0 w1 W).mono fun e W' ⟨he, hg⟩ => ?_
  subst he
  exact ⟨_, rfl, post_of_same (pa := []) (pv := []) hW' (fun _ _ _ => (trodAll_cons_mk (shut_bool Try.underlying4 _) trodAll_mk0)) (fun sp _ => (trodAll_cons_mk (shut_int Try.underlying27 w0) (trodAll_cons_mk (shut_int Try.underlying28 w1) trodAll_mk0))) (fun _ _ => rfl) rfl
    (hg.frame _) hg.2.1 (ok_one (by kernel_rfl) rfl (okWide_bool_mk Try.underlying4 _))⟩

theorem over : Rows.expoRootsRow.holds Try.pinned (OpenSpec.ofChange Rows.expoRootsSpec) :=
  OpenClaim.holds_of_wide 5 Try.f5 rfl rfl rfl rfl rfl rfl rfl ⟨rfl, rfl, rfl, rfl, rfl⟩ rfl rfl rfl rfl rfl (by kernel_rfl) Try.func5 (by kernel_rfl)
    (of_decide_eq_true (by kernel_rfl)) (by unfold Func.isWrapper; first | (rw [if_pos (by decide +kernel)]; kernel_rfl) | (rw [if_neg (by decide +kernel)]; exact ⟨rfl, rfl⟩))
    (fun os started H enc _ => lifted os started H enc)

theorem proved : Rows.ExpoRootsSaid :=
  over
end Go.Proofs.Ytnmgkmbfmjlnmaa.expoRoots

namespace Go.Proofs.Ytnmgkmbfmjlnmaa
theorem expoRoots_holds : Rows.ExpoRootsSaid := expoRoots.proved
#print axioms expoRoots_holds
end Go.Proofs.Ytnmgkmbfmjlnmaa
