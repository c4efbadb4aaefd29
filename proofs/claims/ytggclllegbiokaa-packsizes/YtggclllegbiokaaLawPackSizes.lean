/- So many codes of so many bits have as many words as the document says, no more than they must: PackSizes answers true for every input. -/
import Derived.Test.YtggclllegbiokaaRows
import Derived.Test.YtggclllegbiokaaPkAwake
import Derived.WalkKit
import Derived.ProofKit
import Derived.OpenShut
import Derived.ShutString
import Derived.ChangeOld
import Derived.Below
namespace Go.Proofs.Ytggclllegbiokaa.packSizes
open Go.ChangeShapes Go.WideShapes Go.ChangeAt Go.RowKit
set_option linter.unusedVariables false

theorem own : ownKnob Try.prog.godebug = none := by kernel_rfl
theorem laidOut : laidOutB Try.prog = true := by kernel_rfl

/-- What the walk is told of a slice of integers that came in. -/
def IsRow (k : IntKind) (w : World) (a : Option Addr) (len cap : Nat) (zs : List Int) : Prop :=
  (a = none ∧ len = 0 ∧ cap = 0 ∧ zs = []) ∨
  ∃ x, a = some x ∧ len ≤ cap ∧ cap ≤ maxLen ∧ zs.length = cap ∧ (∀ i, i < zs.length → w.cell? (x.add i) = some (.int k (zs.getD i 0))) ∧ ∀ n ∈ zs, (Lit.int k n).wf = true

theorem walk (a0 : Int) (a1 : Int) (w : World) (w0 : (Lit.int .i64 a0).wf = true) (w1 : (Lit.int .i64 a1).wf = true) :
    Calls Try.prog 6 #[.int .i64 a0, .int .i64 a1] w fun e w' => e = .returned (.bool true) ∧ Below w.heap.size w w' := by
  -- frame
  have bn := bounds_i64 w0
  clear w0 w1
  rcases ok_or a1 with hb | ⟨b, rfl, hb⟩
  · have H : Hid (NotOk a1) := hb
    clear hb
    go_enter Try.func6, Try.ntmps6
    go_wp2_with (first
      | (go_at_call 14; refine (words_bits _ _ H.out _).mono ?_; rintro e w' ⟨rfl, hww⟩; cases hww.symm; clear hww)
      | (go_at_call 21; refine (bits_no _ H.out _).mono ?_; rintro e w' ⟨rfl, hww⟩; cases hww.symm; clear hww)
      | (go_at_call 16; refine (refBits_no _ H.out _).mono ?_; rintro e w' ⟨rfl, hww⟩; cases hww.symm; clear hww)
      | (go_at_call 8; refine (pkAwake_any _).mono ?_; rintro e wa ⟨rfl, hba⟩))
    go_ret
    exact ⟨rfl, hba⟩
  · have H : Hid (Pk.Ok b) := hb
    have hb8 := ok_le hb
    clear hb
    by_cases hn0 : a0 < 0
    · go_enter Try.func6, Try.ntmps6
      go_wp2_with (first
        | (go_at_call 14; refine (words_many _ _ H.out (Or.inl hn0) _).mono ?_; rintro e w' ⟨rfl, hww⟩; cases hww.symm; clear hww)
        | (go_at_call 21; refine (bits_yes _ H.out _).mono ?_; rintro e w' ⟨rfl, hww⟩; cases hww.symm; clear hww)
        | (go_at_call 16; refine (refBits_yes _ H.out _).mono ?_; rintro e w' ⟨rfl, hww⟩; cases hww.symm; clear hww)
        | (go_at_call 8; refine (pkAwake_any _).mono ?_; rintro e wa ⟨rfl, hba⟩))
      go_ret
      exact ⟨rfl, hba⟩
    by_cases hn1 : 256 < a0
    · go_enter Try.func6, Try.ntmps6
      go_wp2_with (first
        | (go_at_call 14; refine (words_many _ _ H.out (Or.inr hn1) _).mono ?_; rintro e w' ⟨rfl, hww⟩; cases hww.symm; clear hww)
        | (go_at_call 21; refine (bits_yes _ H.out _).mono ?_; rintro e w' ⟨rfl, hww⟩; cases hww.symm; clear hww)
        | (go_at_call 16; refine (refBits_yes _ H.out _).mono ?_; rintro e w' ⟨rfl, hww⟩; cases hww.symm; clear hww)
        | (go_at_call 8; refine (pkAwake_any _).mono ?_; rintro e wa ⟨rfl, hba⟩))
      go_ret
      exact ⟨rfl, hba⟩
    obtain ⟨n, rfl⟩ := Int.eq_ofNat_of_zero_le (show 0 ≤ a0 by omega)
    have hn : n ≤ 256 := by omega
    clear hn0 hn1 bn
    obtain ⟨q, eq⟩ : ∃ q, n * b = q := ⟨_, rfl⟩
    have hq : q ≤ 256 * 8 := by rw [← eq]; exact Nat.mul_le_mul hn hb8.2
    have hqi : (n : Int) * (b : Int) = (q : Int) := by rw [← eq]; exact (Int.natCast_mul n b).symm
    obtain ⟨z, ez⟩ : ∃ z, Pk.size b n = z := ⟨_, rfl⟩
    have EZ : Hid (Pk.size b n = z) := ez
    have hz1 : q ≤ 64 * z := by unfold Pk.size at ez; omega
    have hz2 : 64 * z < q + 64 := by unfold Pk.size at ez; omega
    clear eq ez
    by_cases hz0 : z = 0
    · subst hz0
      go_enter Try.func6, Try.ntmps6
      go_wp2_with (first
        | (go_at_call 14; refine (words_yes _ _ H.out hn _).mono ?_; rintro e w' ⟨rfl, hww⟩; cases hww.symm; clear hww; rw [EZ.out])
        | (go_at_call 17; refine (refWords_any _ _ H.out hn _).mono ?_; rintro e w' ⟨rfl, hww⟩; cases hww.symm; clear hww; rw [EZ.out])
        | (go_at_call 21; refine (bits_yes _ H.out _).mono ?_; rintro e w' ⟨rfl, hww⟩; cases hww.symm; clear hww)
        | (go_at_call 16; refine (refBits_yes _ H.out _).mono ?_; rintro e w' ⟨rfl, hww⟩; cases hww.symm; clear hww)
        | (go_at_call 8; refine (pkAwake_any _).mono ?_; rintro e wa ⟨rfl, hba⟩))
      go_ret
      exact ⟨rfl, hba⟩
    · have g0 : ((z : Int) == 0) = false := beq_eq_false_iff_ne.2 (by omega)
      go_enter Try.func6, Try.ntmps6
      go_wp2_with (first
        | (go_at_call 14; refine (words_yes _ _ H.out hn _).mono ?_; rintro e w' ⟨rfl, hww⟩; cases hww.symm; clear hww; rw [EZ.out])
        | (go_at_call 17; refine (refWords_any _ _ H.out hn _).mono ?_; rintro e w' ⟨rfl, hww⟩; cases hww.symm; clear hww; rw [EZ.out])
        | (go_at_call 21; refine (bits_yes _ H.out _).mono ?_; rintro e w' ⟨rfl, hww⟩; cases hww.symm; clear hww)
        | (go_at_call 16; refine (refBits_yes _ H.out _).mono ?_; rintro e w' ⟨rfl, hww⟩; cases hww.symm; clear hww)
        | (go_at_call 8; refine (pkAwake_any _).mono ?_; rintro e wa ⟨rfl, hba⟩))
      go_ret
      exact ⟨rfl, hba⟩

set_option maxRecDepth 100000 in
theorem lifted (os : Os) (started : os.Started) (H : Type) (enc : TypeId × Value → H) :
    ReturnsInHanded {} Try.checked os 6 .any (Rows.packSizesSpec.pre6 enc Try.prog Try.f6 Rows.packSizesRow.domain false) (Rows.packSizesSpec.post enc Try.prog Try.f6 false true false false) := by
  refine returnsInHanded_of_change (C := Try.checked) own started (by kernel_rfl) Try.func6
    (ChangeSpec.witness6 (enc := enc) (C := Try.checked) false ⟨#[], #[.int .i64 0, .int .i64 0], []⟩ 8 (by kernel_rfl) (by kernel_rfl) (by kernel_rfl) (by kernel_rfl)) ?_
  intro W base args ds gs before hval0 hW hcnd _
  have hval : ∀ (j : Nat) t v, Try.f6.params[j]? = some t → args[j]? = some v → Value.okWide Try.prog W .any base t v := hval0
  have hW' := hW
  obtain ⟨p, q, hA0, hV, rfl, hfz, hnd⟩ := hW
  have hA : DataW.TrodAll enc Try.prog W 0 (fun _ => true) true Try.f6.params.toList args.toList ds p := hA0
  rw [Try.params6] at hA hval
  obtain ⟨v0, vs0, d0, ds0, p0, q0, hargs, rfl, rfl, h0, r0⟩ := trodAll_cons hA
  obtain ⟨v1, vs1, d1, ds1, p1, q1, rfl, rfl, rfl, h1, r1⟩ := trodAll_cons r0
  obtain ⟨rfl, rfl, rfl⟩ := trodAll_nil r1
  obtain rfl : args = #[v0, v1] := by cases args; simp_all
  obtain ⟨rfl, rfl⟩ := trodVars_none hV
  obtain ⟨a0, rfl, rfl, rfl, w0⟩ := open_int Try.underlying3 (hval 0 3 v0 rfl rfl) h0
  obtain ⟨a1, rfl, rfl, rfl, w1⟩ := open_int Try.underlying3 (hval 1 3 v1 rfl rfl) h1
  clear hA0 hval0
  refine (walk a0 a1 W w0 w1).mono fun e W' ⟨he, bel⟩ => ?_
  subst he
  exact ⟨_, rfl, _, _, _, [], _, [], hW', trodAll_mk1 (shut_bool Try.underlying4 _), (trodAll_cons_mk (shut_int Try.underlying3 w0) (trodAll_cons_mk (shut_int Try.underlying3 w1) trodAll_mk0)), rfl, bel.frame _, fun h => by cases h⟩

theorem over : Rows.packSizesRow.holds Try.pinned (OpenSpec.ofChange Rows.packSizesSpec) :=
  OpenClaim.holds_of_wide 6 Try.f6 rfl rfl rfl rfl rfl rfl rfl ⟨rfl, rfl, rfl, rfl, rfl⟩ rfl rfl rfl rfl rfl (by kernel_rfl) Try.func6 (by kernel_rfl)
    (of_decide_eq_true (by kernel_rfl)) (by unfold Func.isWrapper; first | (rw [if_pos (by decide +kernel)]; kernel_rfl) | (rw [if_neg (by decide +kernel)]; exact ⟨rfl, rfl⟩))
    (fun os started H enc _ => lifted os started H enc)

theorem proved : Rows.PackSizesSaid := over
end Go.Proofs.Ytggclllegbiokaa.packSizes

namespace Go.Proofs.Ytggclllegbiokaa
theorem packSizes_holds : Rows.PackSizesSaid := packSizes.proved
#print axioms packSizes_holds
end Go.Proofs.Ytggclllegbiokaa
