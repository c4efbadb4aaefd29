/- The fixed answers that each law of layer 1 asks for are given. -/
import Derived.Test.YtmloefglianggaaFxCalls
namespace Go.Proofs.Ytmloefglianggaa
set_option linter.unusedVariables false
open Go.RowKit

theorem awake_any (w : World) :
    Calls Try.prog 13 #[] w fun e w' => e = .returned (.bool true) ∧ ∃ n, w' = w.drewN n := by
  go_enter Try.func13, Try.ntmps13
  go_wp2_with fail
  refine (mul_any _ _ (by omega) (by omega) (by omega) (by omega) _).mono ?_
  rintro e w' ⟨rfl, rfl⟩
  rw [show Fx.mul 98304 98304 = 147456 from by decide]
  go_wp2_with fail
  refine (half_any _ _ (by omega) (by omega) _).mono ?_
  rintro e w' ⟨rfl, rfl⟩
  rw [show Fx.rnd 3 (2 ^ (Fx.cut 1 0 62).toNat) = 2 from by decide]
  go_wp2_with fail
  refine (half_any _ _ (by omega) (by omega) _).mono ?_
  rintro e w' ⟨rfl, rfl⟩
  rw [show Fx.rnd 5 (2 ^ (Fx.cut 1 0 62).toNat) = 2 from by decide]
  go_wp2_with fail
  refine (half_any _ _ (by omega) (by omega) _).mono ?_
  rintro e w' ⟨rfl, rfl⟩
  rw [show Fx.rnd (-3) (2 ^ (Fx.cut 1 0 62).toNat) = -2 from by decide]
  go_wp2_with fail
  refine (ratio_any _ _ (by omega) (by omega) (by omega) (by omega) _).mono ?_
  rintro e w' ⟨rfl, n1, rfl⟩
  rw [show Fx.rnd 7 2 = 4 from by decide]
  go_wp2_with fail
  refine (wide_any _ _).mono ?_
  rintro e w' ⟨rfl, rfl⟩
  rw [show Fx.cut 1099511627776 (-2147483648) 2147483647 = 2147483647 from by decide]
  go_wp2_with fail
  refine (narrow_any _ _).mono ?_
  rintro e w' ⟨rfl, rfl⟩
  rw [show Fx.cut (-1099511627776) (-8388608) 8388608 = -8388608 from by decide]
  go_wp2_with fail
  refine (add_any _ _ (by omega) (by omega) (by omega) (by omega) _).mono ?_
  rintro e w' ⟨rfl, rfl⟩
  rw [show Fx.cut (2147483647 + 1) (-2147483648) 2147483647 = 2147483647 from by decide]
  go_wp2_with fail
  refine (sub_any _ _ (by omega) (by omega) (by omega) (by omega) _).mono ?_
  rintro e w' ⟨rfl, rfl⟩
  rw [show Fx.cut (1 - 2) (-2147483648) 2147483647 = -1 from by decide]
  go_wp2_with fail
  refine (div_any _ _ (by omega) (by omega) (by omega) (by omega) _).mono ?_
  rintro e w' ⟨rfl, n2, rfl⟩
  rw [show Fx.div 65536 131072 = 32768 from by decide]
  go_wp2_with fail
  refine (div_any _ _ (by omega) (by omega) (by omega) (by omega) _).mono ?_
  rintro e w' ⟨rfl, n3, rfl⟩
  rw [show Fx.div (-1) 0 = -2147483648 from by decide]
  go_wp2_with fail
  refine (of_any _ _).mono ?_
  rintro e w' ⟨rfl, rfl⟩
  rw [show Fx.of 3 = 196608 from by decide]
  go_wp2
  go_ret
  exact ⟨rfl, _, rfl⟩
end Go.Proofs.Ytmloefglianggaa
