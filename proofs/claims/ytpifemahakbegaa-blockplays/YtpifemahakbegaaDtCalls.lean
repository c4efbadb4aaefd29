/- Contracts of package dot and of the document's own answers of layer 3, where nothing is made. -/
import Derived.Test.YtpifemahakbegaaFxCalls
import Derived.Test.YtpifemahakbegaaLsWorld
namespace Go.Proofs.Ytpifemahakbegaa
set_option linter.unusedVariables false
open Go.RowKit

/-- What two lists' lengths tell: 25, 12 or 0. -/
def shapeN (m n : Nat) : Int := if m = n then (if 1024 < m then 12 else 0) else 25
theorem shapeN_ne {m n : Nat} (h : ¬ m = n) : shapeN m n = 25 := by unfold shapeN; rw [if_neg h]
theorem shapeN_many {n : Nat} (h : 1024 < n) : shapeN n n = 12 := by unfold shapeN; rw [if_pos rfl, if_pos h]
theorem shapeN_ok {n : Nat} (h : ¬ 1024 < n) : shapeN n n = 0 := by unfold shapeN; rw [if_pos rfl, if_neg h]

theorem dotN_step {x y : List Int} {k : Nat} (hx : Ls.mild x = true) (hy : Ls.mild y = true) (hk : k < 1024) :
    -288230376151711744 ≤ Ls.dotN x y k + Ls.nth x k * Ls.nth y k ∧ Ls.dotN x y k + Ls.nth x k * Ls.nth y k ≤ 288230376151711744 ∧
    -288230376151711744 ≤ Ls.dotN x y k ∧ Ls.dotN x y k ≤ 288230376151711744 ∧ -281474976710656 ≤ Ls.nth x k * Ls.nth y k ∧ Ls.nth x k * Ls.nth y k ≤ 281474976710656 := by
  have h1 := Ls.dotN_bd hx hy k
  have pa := Ls.mild_nth hx k
  have pb := Ls.mild_nth hy k
  have p := Ls.prod_bd pa.1 pa.2 pb.1 pb.2
  omega

end Go.Proofs.Ytpifemahakbegaa
