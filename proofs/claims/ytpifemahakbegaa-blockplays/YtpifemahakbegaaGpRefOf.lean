/- Contracts of the document's own answers of layer 7: Of. -/
import Derived.Test.YtpifemahakbegaaGpBack
namespace Go.Proofs.Ytpifemahakbegaa
set_option linter.unusedVariables false
open Go.RowKit
attribute [local go_sem ↓] Go.wp_at_zero Go.wp_at_succ

/-- The three cells of a group. -/
def gcell (z sc : Int) (v : Value) (i : Nat) : Value := if i = 0 then .int .i32 z else if i = 1 then .int .u32 sc else v
theorem gcell_set (z sc : Int) (v v' : Value) (j : Nat) (hj : j < 3) : (if j = 2 then v' else gcell z sc v j) = gcell z sc v' j := by
  unfold gcell
  match j, hj with
  | 0, _ => rfl
  | 1, _ => rfl
  | 2, _ => rfl
theorem gcell_alloc (w : World) (z sc : Int) (v : Value) (t : TypeId) : (w.alloc (.cells #[.int .i32 z, .int .u32 sc, v] t)).rowIs w.heap.size t 3 (gcell z sc v) :=
  World.rowIs_alloc w #[.int .i32 z, .int .u32 sc, v] t _ (fun i hi => by match i, hi with | 0, _ => rfl | 1, _ => rfl | 2, _ => rfl)

/-- A row of the call's own stands where its block does. -/
theorem own_at {w w' : World} {base : Nat} {t : TypeId} {v : Value} {n : Nat} {xs : List Value} (h : w.ownsRow base t 1 v n xs) (hb : ∀ g, v.ownBlock = some g → w'.heap[g]? = w.heap[g]?) : w'.ownsRow base t 1 v n xs := by
  refine ⟨h.1, ?_⟩
  rcases h.2 with h0 | ⟨g, cap, cur, e, h1, h2, h3⟩
  · exact Or.inl h0
  · refine Or.inr ⟨g, cap, cur, e, h1, ?_, h3⟩
    subst e
    rw [hb g rfl]
    exact h2
theorem own_slice {w : World} {base : Nat} {t : TypeId} {v : Value} {n : Nat} {xs : List Value} (h : w.ownsRow base t 1 v n xs) : ∃ a c, v = .slice a n c := by
  rcases h.2 with ⟨e, hn⟩ | ⟨g, cap, cur, e, _⟩
  · exact ⟨none, 0, by rw [e, hn]⟩
  · exact ⟨_, _, e⟩
theorem own_set {w : World} {base : Nat} {t : TypeId} {v : Value} {n : Nat} {xs : List Value} (h : w.ownsRow base t 1 v n xs) {p : Addr} (hp : p.block < base) (y : Value) : (w.setCell p y).ownsRow base t 1 v n xs :=
  own_at h fun g hg => Go.Deep.blk_setCell_other _ _ _ _ (by have := (h.lt g hg).1; omega)

end Go.Proofs.Ytpifemahakbegaa
