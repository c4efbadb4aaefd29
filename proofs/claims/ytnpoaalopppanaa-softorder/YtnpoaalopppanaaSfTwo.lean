/- Two rows that a call makes side by side, each by its own appends: what one append leaves of the other row. -/
import Derived.Test.YtnpoaalopppanaaSfAwake
namespace Go.Proofs.Ytnpoaalopppanaa
set_option linter.unusedVariables false
open Go.RowKit

theorem Try.infoRow : (Try.prog.info? 22).map (fun i => (i.zero, i.size, i.bytes)) = some (some (.slice none 0 0), 1, 24) := by kernel_rfl
theorem heap_two (w : World) (o p : Obj) : ((w.alloc o).alloc p).heap[w.heap.size]? = some o := by
  have h := (World.grownBy_alloc (w.alloc o) p none).block w.heap.size (by simp) (by simp)
  rw [h]
  exact heap_alloc_new w o
theorem heap_snd (w : World) (o p : Obj) : ((w.alloc o).alloc p).heap[w.heap.size + 1]? = some p := heap_at (by simp)

theorem Tbl.funs {w : World} {a : Option Addr} {ls : List (List Int)} (h : Tbl w a ls) (hp : 0 < ls.length) :
    ∃ (b o : Nat) (A : Nat → Option Addr) (C : Nat → Nat), a = some ⟨b, o, none⟩ ∧ ∀ j, j < ls.length → w.cell? ⟨b, o + j, none⟩ = some (.slice (A j) (Tb.row ls j).length (C j)) ∧ Lst .i32 w (A j) (Tb.row ls j) ∧ (Tb.row ls j).length ≤ maxLen := by
  obtain ⟨b, o, rfl, hc⟩ := h.get hp
  have each : ∀ j, j < ls.length → ∃ y : Option Addr × Nat, w.cell? ⟨b, o + j, none⟩ = some (.slice y.1 (Tb.row ls j).length y.2) ∧ Lst .i32 w y.1 (Tb.row ls j) ∧ (Tb.row ls j).length ≤ maxLen := fun j hj => by
    obtain ⟨A, C, h1⟩ := hc j hj
    exact ⟨(A, C), h1⟩
  obtain ⟨y, hy⟩ := Go.Deep.choose_lt each
  exact ⟨b, o, fun j => (y j).1, fun j => (y j).2, rfl, hy⟩

theorem own_farG {w : World} {base : Nat} {t : TypeId} {v : Value} {n : Nat} {xs : List Value} {b : Nat} (h : w.ownsRow base t 1 v n xs) (hb : b < base) : some b ≠ v.ownBlock := by
  intro e
  have := (h.lt b e.symm).1
  omega
theorem own_past {w : World} {base : Nat} {t : TypeId} {v : Value} {n : Nat} {xs : List Value} {b : Nat} (h : w.ownsRow base t 1 v n xs) (hb : w.heap.size ≤ b) : some b ≠ v.ownBlock := by
  intro e
  have := (h.lt b e.symm).2
  omega
/-- The two rows lie apart. -/
def Apart (u v : Value) : Prop := u.ownBlock = none ∨ u.ownBlock ≠ v.ownBlock
theorem apart_new {w : World} {base : Nat} {t : TypeId} {u v : Value} {n : Nat} {xs : List Value} {g H : Nat} (h : w.ownsRow base t 1 u n xs) (hap : Apart u v) (hat : v.ownBlock = some g ∨ g = H) (hH : w.heap.size ≤ H) : some g ≠ u.ownBlock := by
  rcases hat with e | e
  · intro c
    rcases hap with a | a
    · rw [a] at c; cases c
    · exact a (c.symm.trans e.symm)
  · exact own_past h (by omega)
theorem apart_next {u : Value} {g g2 m H2 a b c d : Nat} (h : some g ≠ u.ownBlock) (hat : u.ownBlock = some g2 ∨ g2 = H2) (hlt : g < m) (hH : m ≤ H2) : Apart (.slice (some ⟨g2, 0, none⟩) a b) (.slice (some ⟨g, 0, none⟩) c d) := by
  right
  show some g2 ≠ some g
  intro e
  cases e
  rcases hat with e | e
  · exact h e.symm
  · omega
theorem range_snoc {k : Nat} {f : Nat → Value} : (List.range (k + 1)).map f = (List.range k).map f ++ [f k] := by rw [List.range_succ, List.map_append]; rfl
theorem vals_snoc {w : World} {base : Nat} {t : TypeId} {v y : Value} {k : Nat} {f : Nat → Value} (h : w.ownsRow base t 1 v (k + 1) ((List.range k).map f ++ [y])) (e : y = f k) : w.ownsRow base t 1 v (k + 1) ((List.range (k + 1)).map f) := by
  rw [range_snoc, ← e]
  exact h
end Go.Proofs.Ytnpoaalopppanaa
