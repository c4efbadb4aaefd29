/- Contracts of package group where memory is made: One, Back, Of, Right, Equal. -/
import Derived.Test.YtimkfkolkplpdaaGreatGpCalls
import Derived.Test.YtimkfkolkplpdaaGreatDtMakes
namespace Go.Proofs.YtimkfkolkplpdaaGreat
set_option linter.unusedVariables false
open Go.RowKit

/-- The first k places made, the others 0. -/
def partG (q : IntKind) (F : Nat → Int) (k j : Nat) : Value := .int q (if j < k then F j else 0)
theorem partG_lt {q : IntKind} {F : Nat → Int} {k j : Nat} (h : j < k) : partG q F k j = .int q (F j) := by unfold partG; rw [if_pos h]
theorem partG_set (q : IntKind) (F : Nat → Int) (k j : Nat) : (if j = k then Value.int q (F k) else partG q F k j) = partG q F (k + 1) j := by
  unfold partG
  by_cases e : j = k
  · subst e; rw [if_pos rfl, if_pos (by omega)]
  · rw [if_neg e]
    by_cases h : j < k
    · rw [if_pos h, if_pos (by omega)]
    · rw [if_neg h, if_neg (by omega)]
theorem Tryz.infoIntG : (Tryz.prog.info? 3).map (fun i => (i.zero, i.size, i.bytes)) = some (some (.int .i64 0), 1, 8) := by kernel_rfl

theorem mul_bd {c sc : Int} (h1 : 0 ≤ c) (h2 : c ≤ 255) (h3 : 0 ≤ sc) (h4 : sc ≤ 4294967295) : 0 ≤ c * sc ∧ c * sc ≤ 1095216660225 := by
  have a := Int.mul_nonneg h1 h3
  have b : c * sc ≤ 255 * sc := Int.mul_le_mul_of_nonneg_right h2 h3
  omega

theorem one_any (z sc c : Int) (a : Option Addr) (n cp : Nat) (hz1 : -2147483648 ≤ z) (hz2 : z ≤ 2147483647) (hs1 : 0 ≤ sc) (hs2 : sc ≤ 4294967295) (hc1 : 0 ≤ c) (hc2 : c ≤ 255) (w : World) :
    Calls Tryz.prog 86 #[.agg #[.int .i32 z, .int .u32 sc, .slice a n cp], .int .i64 c] w fun e w' => e = .returned (.int .i32 (Gp.mean z sc c)) ∧ Below w.heap.size w w' := by
  have hm := mul_bd hc1 hc2 hs1 hs2
  go_enter Tryz.func86, Tryz.ntmps86
  go_wp2_with (go_at_call 112; refine (wide_any _ _).mono ?_; rintro e w' ⟨rfl, rfl⟩)
  go_ret
  exact ⟨rfl, box_below _ _⟩

end Go.Proofs.YtimkfkolkplpdaaGreat
