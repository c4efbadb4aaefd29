/- Contracts of the document's own answers of layer 7: Right and Back. -/
import Derived.Test.YtpifemahakbegaaGpRefs
namespace Go.Proofs.Ytpifemahakbegaa
set_option linter.unusedVariables false
open Go.RowKit
attribute [local go_sem ↓] Go.wp_at_zero Go.wp_at_succ

theorem own_below {w w' : World} {base : Nat} {t : TypeId} {v : Value} {n : Nat} {xs : List Value} (h : w.ownsRow base t 1 v n xs) (hb : Below w.heap.size w w') : w'.ownsRow base t 1 v n xs := by
  have hlt := h.lt
  refine ⟨h.1, ?_⟩
  rcases h.2 with h0 | ⟨g, cap, cur, e, h1, h2, h3⟩
  · exact Or.inl h0
  · refine Or.inr ⟨g, cap, cur, e, h1, ?_, h3⟩
    subst e
    rw [hb.block g (hlt g rfl).2]
    exact h2
theorem gen_snoc {w : World} {base : Nat} {t : TypeId} {q : IntKind} {v : Value} {k : Nat} {F : Nat → Int} {y : Int} (h : w.ownsRow base t 1 v (k + 1) ((Ls.gen k F).map (Value.int q) ++ [.int q y])) (e : y = F k) :
    w.ownsRow base t 1 v (k + 1) ((Ls.gen (k + 1) F).map (Value.int q)) := by
  rw [Ls.gen_succ, List.map_append]
  subst e
  exact h

end Go.Proofs.Ytpifemahakbegaa
