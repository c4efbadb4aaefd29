/- Contracts of package dot and of the document's own answers of layer 3, where a new list is made. -/
import Derived.Test.YtpifemahakbegaaDtCalls
import Derived.Deep.RegionHeld3
import Derived.Deep.AppendLies
import Derived.Deep.DrawnRows
import Derived.Outline
namespace Go.Proofs.Ytpifemahakbegaa
set_option linter.unusedVariables false
open Go.RowKit

theorem Try.infoInt32 : (Try.prog.info? 21).map (fun i => (i.zero, i.size, i.bytes)) = some (some (.int .i32 0), 1, 4) := by kernel_rfl

/-- The first k places made, the others 0. -/
def part (F : Nat → Int) (k j : Nat) : Value := .int .i32 (if j < k then F j else 0)
theorem part_lt {F : Nat → Int} {k j : Nat} (h : j < k) : part F k j = .int .i32 (F j) := by unfold part; rw [if_pos h]
theorem part_set (F : Nat → Int) (k j : Nat) : (if j = k then Value.int .i32 (F k) else part F k j) = part F (k + 1) j := by
  unfold part
  by_cases e : j = k
  · subst e; rw [if_pos rfl, if_pos (by omega)]
  · rw [if_neg e]
    by_cases h : j < k
    · rw [if_pos h, if_pos (by omega)]
    · rw [if_neg h, if_neg (by omega)]

theorem box_cell (w w1 : World) (v : Value) (t : TypeId) (h : Below (w.alloc (.cells #[v] t)).heap.size (w.alloc (.cells #[v] t)) w1) : w1.cell? ⟨w.heap.size, 0, none⟩ = some v := by
  rw [h.cell (p := ⟨w.heap.size, 0, none⟩) (by simp)]
  exact cell_of_one (heap_alloc_new w _)
theorem box_below (w : World) (o : Obj) : Below w.heap.size w (w.alloc o) := (Below.refl _ _).alloc (Nat.le_refl _) _

end Go.Proofs.Ytpifemahakbegaa
