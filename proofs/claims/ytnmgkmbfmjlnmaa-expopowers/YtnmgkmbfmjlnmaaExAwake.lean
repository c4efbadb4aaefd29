/- The fixed answers that each law of layer 2 asks for are given. -/
import Derived.Test.YtnmgkmbfmjlnmaaExCalls
namespace Go.Proofs.Ytnmgkmbfmjlnmaa
set_option linter.unusedVariables false
open Go.RowKit

theorem exAwake_any (w : World) :
    Calls Try.prog 10 #[] w fun e w' => e = .returned (.bool true) ∧ ∃ n, w' = w.drewN n := by
  have e1 : Ex.exp 0 = 65536 := by decide
  have e2 : Ex.exp (-2147483648) = 0 := by decide
  have e3 : Ex.root 17 = 4 := by decide
  have e4 : Ex.rsq 262144 = 32768 := by decide
  have e5 : Fx.div 65536 131072 = 32768 := by decide
  go_enter Try.func10, Try.ntmps10
  go_wp2_with (first
    | (go_at_call 8; refine (exp_any _ (by omega) (by omega) _).mono ?_; rintro e w' ⟨rfl, rfl⟩)
    | (go_at_call 9; refine (refExp_any _ (by omega) (by omega) _).mono ?_; rintro e w' ⟨rfl, rfl⟩)
    | (go_at_call 12; refine (root_any _ (by omega) (by omega) _).mono ?_; rintro e w' ⟨rfl, rfl⟩)
    | (go_at_call 11; refine (rsqrt_any _ (by omega) (by omega) _).mono ?_; rintro e w' ⟨rfl, rfl⟩)
    | (go_at_call 14; refine (recip_any _ (by omega) (by omega) _).mono ?_; rintro e w' ⟨rfl, n1, rfl⟩))
  go_ret
  exact ⟨rfl, _, rfl⟩
end Go.Proofs.Ytnmgkmbfmjlnmaa
