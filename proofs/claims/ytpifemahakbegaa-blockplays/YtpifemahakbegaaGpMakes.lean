/- Contracts of package group where memory is made: One, Back, Of, Right, Equal. -/
import Derived.Test.YtpifemahakbegaaGpCalls
import Derived.Test.YtpifemahakbegaaDtMakes
namespace Go.Proofs.Ytpifemahakbegaa
set_option linter.unusedVariables false
open Go.RowKit

/-- The first k places made, the others 0. -/
def partG (q : IntKind) (F : Nat → Int) (k j : Nat) : Value := .int q (if j < k then F j else 0)
theorem partG_lt {q : IntKind} {F : Nat → Int} {k j : Nat} (h : j < k) : partG q F k j = .int q (F j) := by unfold partG; rw [if_pos h]
theorem partG_set (q : IntKind) (F : Nat → Int) (k j : Nat) : (if j = k then Value.int q (F k) else partG q F k j) = partG q F (k + 1) j := by
  unfold partG
  by_cases e : j = k
  · subst e; rw [if_pos rfl, if_pos (by omega)]
  · rw [if_neg e]
    by_cases h : j < k
    · rw [if_pos h, if_pos (by omega)]
    · rw [if_neg h, if_neg (by omega)]
theorem Try.infoIntG : (Try.prog.info? 3).map (fun i => (i.zero, i.size, i.bytes)) = some (some (.int .i64 0), 1, 8) := by kernel_rfl

theorem mul_bd {c sc : Int} (h1 : 0 ≤ c) (h2 : c ≤ 255) (h3 : 0 ≤ sc) (h4 : sc ≤ 4294967295) : 0 ≤ c * sc ∧ c * sc ≤ 1095216660225 := by
  have a := Int.mul_nonneg h1 h3
  have b : c * sc ≤ 255 * sc := Int.mul_le_mul_of_nonneg_right h2 h3
  omega

end Go.Proofs.Ytpifemahakbegaa
