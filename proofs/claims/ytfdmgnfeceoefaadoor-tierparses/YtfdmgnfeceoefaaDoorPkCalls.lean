/- Contracts of package pack and of the document's own answers of layer 5, where nothing is made. -/
import Derived.Test.YtfdmgnfeceoefaaDoorLsWorld
import Derived.Test.YtfdmgnfeceoefaaDoorPkMath
import Derived.Outline
namespace Go.Proofs.YtfdmgnfeceoefaaDoor
set_option linter.unusedVariables false
open Go.RowKit

/-- May codes have so many bits? (any number) -/
def NotOk (b : Int) : Prop := ¬ b = 2 ∧ ¬ b = 4 ∧ ¬ b = 8
theorem ok_or (b : Int) : NotOk b ∨ ∃ n : Nat, b = (n : Int) ∧ Pk.Ok n := by
  by_cases h1 : b = 2
  · exact Or.inr ⟨2, h1, Or.inl rfl⟩
  by_cases h2 : b = 4
  · exact Or.inr ⟨4, h2, Or.inr (Or.inl rfl)⟩
  by_cases h3 : b = 8
  · exact Or.inr ⟨8, h3, Or.inr (Or.inr rfl)⟩
  exact Or.inl ⟨h1, h2, h3⟩
theorem ok_le {b : Nat} (h : Pk.Ok b) : 2 ≤ b ∧ b ≤ 8 := by rcases h with rfl | rfl | rfl <;> omega

theorem bits_yes (b : Nat) (h : Pk.Ok b) (w : World) :
    Calls Tryd.prog 26 #[.int .i64 b] w fun e w' => e = .returned (.bool true) ∧ w' = w := by
  rcases h with rfl | rfl | rfl
  all_goals
    go_enter Tryd.func26, Tryd.ntmps26
    go_wp2
    go_ret
    exact ⟨rfl, rfl⟩
theorem bits_no (b : Int) (h : NotOk b) (w : World) :
    Calls Tryd.prog 26 #[.int .i64 b] w fun e w' => e = .returned (.bool false) ∧ w' = w := by
  obtain ⟨h1, h2, h3⟩ := h
  have g1 : (b == 2) = false := beq_eq_false_iff_ne.2 h1
  have g2 : (b == 4) = false := beq_eq_false_iff_ne.2 h2
  have g3 : (b == 8) = false := beq_eq_false_iff_ne.2 h3
  go_enter Tryd.func26, Tryd.ntmps26
  go_wp2
  go_ret
  exact ⟨rfl, rfl⟩
theorem refBits_yes (b : Nat) (h : Pk.Ok b) (w : World) :
    Calls Tryd.prog 23 #[.int .i64 b] w fun e w' => e = .returned (.bool true) ∧ w' = w := by
  rcases h with rfl | rfl | rfl
  all_goals
    go_enter Tryd.func23, Tryd.ntmps23
    go_wp2
    go_ret
    exact ⟨rfl, rfl⟩
theorem refBits_no (b : Int) (h : NotOk b) (w : World) :
    Calls Tryd.prog 23 #[.int .i64 b] w fun e w' => e = .returned (.bool false) ∧ w' = w := by
  obtain ⟨h1, h2, h3⟩ := h
  have g1 : (b == 2) = false := beq_eq_false_iff_ne.2 h1
  have g2 : (b == 4) = false := beq_eq_false_iff_ne.2 h2
  have g3 : (b == 8) = false := beq_eq_false_iff_ne.2 h3
  go_enter Tryd.func23, Tryd.ntmps23
  go_wp2
  go_ret
  exact ⟨rfl, rfl⟩

theorem div_two (v k : Nat) : v / 2 ^ k / 2 = v / 2 ^ (k + 1) := by rw [Nat.div_div_eq_div_mul, Nat.pow_succ]
end Go.Proofs.YtfdmgnfeceoefaaDoor
