/- Contracts of the document's own answers of layer 3 that make a list, element by element. -/
import Derived.Test.YtnpoaalopppanaaDtMakes
namespace Go.Proofs.Ytnpoaalopppanaa
set_option linter.unusedVariables false
open Go.RowKit
attribute [local go_sem ↓] Go.wp_at_zero Go.wp_at_succ

theorem i64_same {n : Int} (h1 : -9223372036854775808 ≤ n) (h2 : n ≤ 9223372036854775807) : IntKind.i64.wrap n = n := by rw [IntKind.wrap_i64]; omega

theorem gen_snoc_own {w : World} {base : Nat} {v : Value} {k : Nat} {F : Nat → Int} {y : Int} (h : w.ownsRow base 21 1 v (k + 1) ((Ls.gen k F).map (Value.int .i32) ++ [.int .i32 y])) (e : y = F k) :
    w.ownsRow base 21 1 v (k + 1) ((Ls.gen (k + 1) F).map (Value.int .i32)) := by
  rw [Ls.gen_succ, List.map_append]
  subst e
  exact h

theorem own_far {w : World} {base : Nat} {v : Value} {n : Nat} {xs : List Value} {b : Nat} (h : w.ownsRow base 21 1 v n xs) (hb : b < base) : some b ≠ v.ownBlock := by
  intro e
  have := (h.lt b e.symm).1
  omega

end Go.Proofs.Ytnpoaalopppanaa
